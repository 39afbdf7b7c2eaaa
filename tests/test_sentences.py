"""Points [3] to [5] and [8]: sentences, read and told."""

import re
import unittest

from downtoground.errors import BadText, Unbound
from downtoground.texts import sentence_of, sentence_text
from tests.grammar import SentenceDescent, is_first_wrong, read
from tests.helpers import drawer, strange_values

P, Q, R = ("is", ("p",)), ("is", ("q",)), ("is", ("r",))
EQUAL = ("equal", ("a",), ("b",))
NAMES = (("a", 0), ("b_2", 0), ("f", 1), ("long_name_12", 2), ("nota", 0), ("allx", 1), ("s0m3", 3))
GREATS = ("X", "Y", "Z1", "GREAT888", "N")


def drawn_spoken(draw, bound, depth):
    if bound and draw.random() < 0.4:
        return draw.choice(bound)
    name, arity = draw.choice([pair for pair in NAMES if depth > 0 or pair[1] == 0])
    return (name,) + tuple(drawn_spoken(draw, bound, depth - 1) for _ in range(arity))


def drawn_sentence(draw, bound, depth):
    """A drawn sentence that is closed within the bound names."""
    word = draw.choice(("is", "equal", "not", "and", "or", "then", "same", "all", "some"))
    if depth == 0 or word in ("is", "equal"):
        if draw.random() < 0.5:
            return ("equal", drawn_spoken(draw, bound, 2), drawn_spoken(draw, bound, 2))
        return ("is", drawn_spoken(draw, (), 0) if not bound else ("p", draw.choice(bound)))
    if word == "not":
        return ("not", drawn_sentence(draw, bound, depth - 1))
    if word in ("all", "some"):
        great = draw.choice(GREATS)
        return (word, great, drawn_sentence(draw, bound + (great,), depth - 1))
    return (word, drawn_sentence(draw, bound, depth - 1), drawn_sentence(draw, bound, depth - 1))


def loose_text(draw, sentence):
    """A text of a sentence with needless brackets, needless spaces, and great names put together."""
    def spoken(term):
        if isinstance(term, str):
            return [term]
        told = [term[0]]
        for index, part in enumerate(term[1:]):
            told += ["(" if index == 0 else ","] + spoken(part)
        return told + ([")"] if len(term) > 1 else [])

    def whole(part):
        told = inner(part)
        for _ in range(1 if part[0] not in ("is", "equal") else draw.choice((0, 0, 1))):
            told = ["("] + told + [")"]
        return told

    def inner(part):
        word = part[0]
        if word == "is":
            return spoken(part[1])
        if word == "equal":
            return spoken(part[1]) + ["="] + spoken(part[2])
        if word == "not":
            if part[1][0] == "equal" and draw.random() < 0.5:
                return spoken(part[1][1]) + ["!="] + spoken(part[1][2])
            return ["not"] + whole(part[1])
        if word in ("all", "some"):
            greats = [part[1]]
            while part[2][0] == word and draw.random() < 0.7:
                part = part[2]
                greats.append(part[1])
            return [word] + greats + [":"] + (inner(part[2]) if draw.random() < 0.5 else whole(part[2]))
        return whole(part[1]) + [word] + whole(part[2])

    return spaced(draw, inner(sentence))


def spaced(draw, tokens):
    """Tokens with spaces between them, drawn, but where one must stand."""
    text = ""
    for token in tokens:
        must = re.search("[A-Za-z0-9_]$", text) and re.match("[A-Za-z0-9_]", token)
        text += " " * (draw.choice((0, 0, 1, 3)) or (1 if must else 0)) + token
    return text + " " * draw.choice((0, 2))


class ReadTest(unittest.TestCase):

    def assert_bad(self, text, column):
        with self.assertRaises(BadText) as held:
            sentence_of(text)
        self.assertEqual(held.exception.column, column, text)

    def test_by_hand(self):
        told = {
            "p": P,
            "  p  ": P,
            "a=b": EQUAL,
            "a != b": ("not", EQUAL),
            "not a = b": ("not", EQUAL),
            "not not p": ("not", ("not", P)),
            "not(p)": ("not", P),
            "p and q or r": ("or", ("and", P, Q), R),
            "p or q and r": ("or", P, ("and", Q, R)),
            "p or q or r": ("or", ("or", P, Q), R),
            "p and q and r": ("and", ("and", P, Q), R),
            "p then q then r": ("then", P, ("then", Q, R)),
            "p or q then r": ("then", ("or", P, Q), R),
            "p then q same r": ("same", ("then", P, Q), R),
            "p same q then r": ("same", P, ("then", Q, R)),
            "not p and q": ("and", ("not", P), Q),
            "(p)and(q)": ("and", P, Q),
            "p then(q same r)": ("then", P, ("same", Q, R)),
            "all X:p and q": ("all", "X", ("and", P, Q)),
            "p and all X: q same r": ("and", P, ("all", "X", ("same", Q, R))),
            "not some X: p then q": ("not", ("some", "X", ("then", P, Q))),
            "(all X: p) and q": ("and", ("all", "X", P), Q),
            "all X Y1: some Z: p": ("all", "X", ("all", "Y1", ("some", "Z", P))),
            "all X X: X = X": ("all", "X", ("all", "X", ("equal", "X", "X"))),
            "p same all X: q same r": ("same", P, ("all", "X", ("same", Q, R))),
            "all X: p same q same r": ("same", ("all", "X", ("same", P, Q)), R),
            "all X: all Y: p same q same r": ("all", "X", ("same", ("all", "Y", ("same", P, Q)), R)),
            "all X Y: p same q same r": ("same", ("all", "X", ("all", "Y", ("same", P, Q))), R),
            "p same (q same r)": ("same", P, ("same", Q, R)),
            "all X : X != f (a , X)": ("all", "X", ("not", ("equal", "X", ("f", ("a",), "X")))),
            "nota = yes1": ("equal", ("nota",), ("yes1",)),
            "some ABCDEFG8: p(ABCDEFG8)": ("some", "ABCDEFG8", ("is", ("p", "ABCDEFG8"))),
            "abcdefghijk_": ("is", ("abcdefghijk_",)),
        }
        for text, sentence in told.items():
            self.assertEqual(sentence_of(text), sentence, text)
            self.assertEqual(read(SentenceDescent, text), sentence, text)

    def test_wrong_at_a_character(self):
        told = {
            "": 1, "   ": 4, "(": 2, ")": 1, "p)": 2, "(p": 3, "((p)": 5, "p q": 3, "p & q": 3, "p\n": 2, "\np": 1,
            "P": 2, "P ": 3, "P)": 2, "P and p": 3, "P(a) = a": 2, "p = P(a)": 6, "1": 1, "_a": 1, "p-q": 2,
            "p =": 4, "p = ": 5, "p ! = q": 4, "p !": 4, "p != ": 6, "p == q": 4, "p = q = r": 7, "p = q != r": 7,
            "(p) = q": 5, "p()": 3, "p(a": 4, "p(a,": 5, "p(a,)": 5, "p(a)(b)": 5, "p(a b)": 5, "p((a))": 3,
            "p a": 4, "p an": 5, "p and": 6, "p and ": 7, "p andq": 6, "p andX = a": 6, "p ar": 4, "p t": 4, "p th": 5,
            "p tha": 5, "p the": 6, "p or or q": 8, "p orr q": 5, "p and X": 8, "p and X ": 9, "p and X or q": 9,
            "not": 4, "not ": 5, "notX": 4, "not =": 5, "not = p": 5, "all": 4, "all ": 5, "all x: p": 5, "all: p": 4,
            "allX: p": 4, "all X p": 7, "all X": 6, "all X:": 7, "all X, Y: p": 6, "all (X): p": 5, "all X Y p": 9,
            "all XX1: p(XX": 14, "all ABCDEFGHI: p": 13, "ABCDEFGHI = a": 9, "some X:: p": 8, "all X:p:": 8,
            "and": 4, "and p": 4, "yes": 4, "p = yes": 8, "p = yes and q": 8, "p(all)": 6, "p(not a)": 6, "yes = p": 4,
            "p same q same r": 10, "p same all X: q same r same p": 24, "(p same q same r)": 11, "p same q s": 10,
            "p same q and r same p": 16,
            "p same q then r same p": 17, "p same not q same r": 14, "(p same q or r same p)": 16, "p same": 7, "all X Y: p same q same r same p": 26, "all X: p same q same r s": 24, "p sam": 6, "p some X: q": 4, "p not q": 3, "abcdefghijklm": 13, "p(abcdefghijklm)": 15,
            "pX": 2, "aX = b": 2, "Xa = b": 2, "X_ = b": 2, "p(X1 2)": 6, "p(3)": 3, "p | q": 3, "[]": 1, "p = a(": 7,
            "p and (q or": 12, "p and (q or r": 14, "p and (q or r))": 15, "p(a))": 5, "p then then": 12,
        }
        for text, column in told.items():
            self.assertIsNone(read(SentenceDescent, text), text)
            self.assert_bad(text, column)
            self.assertTrue(is_first_wrong(SentenceDescent, text, column), text)

    def test_no_string(self):
        for value in strange_values() + [b"p", ("is", ("p",)), ["p"]]:
            if not isinstance(value, str):
                self.assert_bad(value, 0)

    def test_unbound(self):
        told = {
            "X = Y": "X", "p(f(a, Y), X)": "Y", "all X: p(X) and q(Y)": "Y", "(all X: p(X)) and q(X)": "X",
            "all Y: p(X, Y) then all X: q(Z)": "X", "(some X: X = X) or a != B": "B", "all X: some Y: p(X, Y, Z)": "Z",
            "all X: (all Y: p(Y)) and p(Y)": "Y", "all AB: p(A)": "A",
        }
        for text, name in told.items():
            with self.assertRaises(Unbound) as held:
                sentence_of(text)
            self.assertEqual(held.exception.name, name, text)
        self.assert_bad("p(X) and", 9)
        # A name that is bound and does not stand in a term keeps nothing from being closed.
        self.assertEqual(sentence_of("all X: p"), ("all", "X", P))

    def test_drawn_texts(self):
        draw = drawer(5)
        for _ in range(800):
            sentence = drawn_sentence(draw, (), draw.randint(0, 5))
            plain = sentence_text(sentence)
            self.assertEqual(sentence_of(plain), sentence, plain)
            self.assertEqual(read(SentenceDescent, plain), sentence, plain)
            loose = loose_text(draw, sentence)
            self.assertEqual(sentence_of(loose), sentence, loose)

    def test_drawn_texts_with_a_wrong_sign_or_cut_off(self):
        draw = drawer(6)
        wrong = 0
        for _ in range(700):
            sentence = drawn_sentence(draw, (), draw.randint(0, 3))
            text = draw.choice((sentence_text(sentence), loose_text(draw, sentence)))
            spot = draw.randrange(len(text) + 1)
            way = draw.randrange(4)
            if way == 0:
                text = text[:spot]
            elif way == 1:
                text = text[:spot] + draw.choice("()=!,:aXs0_ \n#|[~@Z9") + text[spot:]
            elif way == 2:
                text = text[:spot] + text[spot + 1:]
            else:
                words = ("all", "and", "or", "then", "same", "not", "yes", "X", "p", "same same", "all X:")
                text = text[:spot] + " " + draw.choice(words) + " " + text[spot:]
            told = read(SentenceDescent, text)
            try:
                self.assertEqual(sentence_of(text), told, text)
            except Unbound:
                self.assertIsNotNone(told, text)
            except BadText as error:
                wrong += 1
                self.assertIsNone(told, text)
                self.assertTrue(is_first_wrong(SentenceDescent, text, error.column), (text, error.column))
        self.assertGreater(wrong, 300)


class ToldTest(unittest.TestCase):

    def test_by_hand(self):
        plain = [
            "p", "a = b", "a != b", "not a != b", "not not p", "not p(f(a, b), c)", "p and q", "not p and q",
            "not (p and q)", "p and q and r", "p and (q and r)", "p or q or r", "p or (q or r)", "p and q or r",
            "p and (q or r)", "(p or q) and r", "p or q and r", "p then q then r", "(p then q) then r",
            "p or q then r and p", "p or (q then r)", "p same q", "p then q same r then p", "p then (q same r)",
            "(p same q) same r", "p same (q same r)", "(p same q) then r", "not (p same q)", "not (p then q)",
            "all X: p(X)", "all X: all Y: X = Y", "all X: some Y: X != Y and p(X) or q(Y)", "all X: p same q",
            "p and all X: q or r", "(all X: p) and q", "p and (all X: q) and r", "p and (all X: q) or r",
            "not all X: p", "not (all X: p) and q", "p or not all X: q", "(p or all X: q) and r",
            "(p or (all X: q) or r) and p", "all X: (all Y: p) and q", "(all X: p) same some X: q",
            "(all X: p same q) same r", "p then not (some X: p) then q", "not not all X: p then q",
            "p and (q and all X: r)", "p and (q or not all X: r)", "p and (all X: q then r) or p",
        ]
        for text in plain:
            self.assertEqual(sentence_text(sentence_of(text)), text)

    def test_brackets_stand_where_they_are_needed_alone(self):
        draw = drawer(7)
        taken = 0
        for _ in range(500):
            sentence = drawn_sentence(draw, (), draw.randint(2, 4))
            text = sentence_text(sentence)
            for begin, end in brackets(text):
                if re.match("[(](all|some) ", text[begin:]) and text[end + 1:].startswith(" same "):
                    # If the part ends in a same, it is read so without brackets, too; yet they are told.
                    continue
                taken += 1
                other = text[:begin] + " " + text[begin + 1:end] + " " + text[end + 1:]
                self.assertNotEqual(read(SentenceDescent, other), sentence, text)
        self.assertGreater(taken, 300)


def brackets(text):
    """The places of brackets around parts of a sentence."""
    begun = []
    found = []
    for spot, sign in enumerate(text):
        if sign == "(":
            begun.append(spot)
        if sign == ")":
            begin = begun.pop()
            if begin == 0 or text[begin - 1] in " (":
                found.append((begin, spot))
    return found


class LimitTest(unittest.TestCase):

    def test_long_texts(self):
        texts = [
            "not " * 99 + "p",
            "all " + "X " * 197 + ":p",
            "all X:" * 66 + "p(X)",
            "p then " * 57 + "p",
            "p and " * 66 + "p",
            "p or " * 79 + "p",
            "(" * 20 + "p" + ")" * 20 + " and " + "(" * 20 + "q" + ")" * 20,
            "p(" * 20 + "a" + ")" * 20 + "=" + "f(" * 20 + "b" + ")" * 20,
            "all X: p same q same " * 1 + "all X: p same q",
            "all X: " * 40 + "p" + " same p" * 16,
            "not (" * 20 + "p then q" + ")" * 20,
        ]
        for text in texts:
            self.assertLessEqual(len(text), 400)
            sentence = sentence_of(text)
            self.assertEqual(sentence, read(SentenceDescent, text))
            plain = sentence_text(sentence)
            self.assertEqual(sentence_of(plain), sentence)
            with self.assertRaises(BadText) as held:
                sentence_of(text + " )")
            self.assertEqual(held.exception.column, len(text) + 2)

    def test_somewhat_beyond(self):
        for text in ("not " * 2000 + "p", "some X: " * 1500 + "X = X", "(" * 1500 + "p" + ")" * 1500):
            self.assertEqual(sentence_text(sentence_of(text)).replace("(", "").replace(")", ""),
                             text.replace("(", "").replace(")", ""))
        with self.assertRaises(Unbound):
            sentence_of("p(" * 900 + "X" + ")" * 900)


if __name__ == "__main__":
    unittest.main()
