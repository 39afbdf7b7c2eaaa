"""Points [6] and [8]: clauses, read and told."""

import unittest

from downtoground.errors import BadText
from downtoground.texts import clause_of, clause_text
from tests.grammar import ClauseDescent, is_first_wrong, read
from tests.helpers import drawer, drawn_term, strange_values
from tests.test_sentences import spaced

YES = ("yes",)
A, B = ("a",), ("b",)
NAMES = (("a", 0), ("b_2", 0), ("f", 1), ("long_name_12", 2), ("nota", 0), ("h3", 3))


def drawn_clause(draw):
    literals = []
    for _ in range(draw.choice((0, 1, 1, 2, 3, 6))):
        left, right = (drawn_term(draw, NAMES, draw.choice((0, 3)), draw.randint(1, 7)) for _ in range(2))
        kind = draw.randrange(6)
        if kind < 2:
            right = YES
            left = ("p", left) if draw.random() < 0.8 else YES
        elif kind == 2:
            left = YES
        literals.append((draw.random() < 0.5, left, right))
    return tuple(literals)


def loose_text(draw, clause):
    """A text of a clause with drawn spaces, and with yes told where it need not be."""
    def told(term):
        if isinstance(term, int):
            return ["X" + str(term)]
        found = [term[0]]
        for index, part in enumerate(term[1:]):
            found += ["(" if index == 0 else ","] + told(part)
        return found + ([")"] if len(term) > 1 else [])

    tokens = [] if clause else ["[]"]
    for sign, left, right in clause:
        tokens += ["|"] if tokens else []
        if right == YES and draw.random() < 0.6:
            tokens += ([] if sign else ["not"]) + told(left)
        else:
            tokens += told(left) + ["=" if sign else "!="] + told(right)
    return spaced(draw, tokens)


class ReadTest(unittest.TestCase):

    def assert_bad(self, text, column):
        with self.assertRaises(BadText) as held:
            clause_of(text)
        self.assertEqual(held.exception.column, column, text)

    def test_by_hand(self):
        told = {
            "[]": (),
            "  []  ": (),
            "p": ((True, ("p",), YES),),
            "not p(X0)": ((False, ("p", 0), YES),),
            "a=b|a!=b": ((True, A, B), (False, A, B)),
            "X0 = X12 | f(X1) != a": ((True, 0, 12), (False, ("f", 1), A)),
            "yes": ((True, YES, YES),),
            "not yes": ((False, YES, YES),),
            "yes = p | p = yes | p != yes": ((True, YES, ("p",)), (True, ("p",), YES), (False, ("p",), YES)),
            "X9999999 = X0": ((True, 9999999, 0),),
            "not(": None,
            "nota | not nota": ((True, ("nota",), YES), (False, ("nota",), YES)),
            "p (X3 , f ( a ))": ((True, ("p", 3, ("f", A)), YES),),
        }
        for text, clause in told.items():
            self.assertEqual(read(ClauseDescent, text), clause, text)
            if clause is not None:
                self.assertEqual(clause_of(text), clause, text)

    def test_wrong_at_a_character(self):
        told = {
            "": 1, " ": 2, "[": 2, "[ ]": 2, "[]]": 3, "[] | p": 4, "p | []": 5, "[]p": 3, "p |": 4, "p | ": 5, "| p": 1,
            "p || q": 4, "p q": 3, "X0": 3, "X0 ": 4, "X0 | p": 4, "p | X0": 7, "not X0": 5, "not X0 = a": 5, "not": 4,
            "not not p": 8, "not p = q": 7, "not p != q": 7, "not(p)": 4, "(p)": 1, "X": 2, "X = a": 2, "Y0 = a": 1,
            "X00 = a": 3, "X01 = a": 3, "X12345678 = a": 9, "X1a = b": 3, "X1X2 = b": 3, "XX = a": 2, "X_ = a": 2,
            "p(yes)": 6, "p(X0, yes)": 10, "f(yes1)": None, "yes(a)": 4, "yes yes": 5, "p = yes = q": 9, "a = b = c": 7,
            "a ! = b": 4, "a =": 4, "p(": 3, "p()": 3, "p(a": 4, "p(a,)": 5, "p(a))": 5, "p & q": 3, "p\n": 2, "all": 4,
            "all = a": 4, "p and q": 3, "p = not q": 8, "some X0: p": 5, "then": 5, "p(X)": 4, "p(Y)": 3, "3 = a": 1,
            "abcdefghijklm": 13, "p(X0": 5, "p(X0(a))": 5, "x0 | X0(a) = a": 8, "a = X": 6, "a = X0 X1": 8,
        }
        for text, column in told.items():
            if column is None:
                self.assertEqual(clause_of(text), ((True, ("f", ("yes1",)), YES),))
                continue
            self.assertIsNone(read(ClauseDescent, text), text)
            self.assert_bad(text, column)
            self.assertTrue(is_first_wrong(ClauseDescent, text, column), text)

    def test_no_string(self):
        for value in strange_values() + [b"p", ((True, A, B),), ["p"]]:
            if not isinstance(value, str):
                self.assert_bad(value, 0)

    def test_drawn_texts(self):
        draw = drawer(61)
        for _ in range(1000):
            clause = drawn_clause(draw)
            loose = loose_text(draw, clause)
            bare = [left for _, left, right in clause if right == YES and isinstance(left, int)]
            if bare:
                continue
            self.assertEqual(clause_of(clause_text(clause)), clause)
            self.assertEqual(read(ClauseDescent, clause_text(clause)), clause)
            self.assertEqual(clause_of(loose), clause, loose)

    def test_drawn_texts_with_a_wrong_sign_or_cut_off(self):
        draw = drawer(62)
        wrong = 0
        for _ in range(900):
            clause = drawn_clause(draw)
            text = draw.choice((clause_text(clause), loose_text(draw, clause)))
            spot = draw.randrange(len(text) + 1)
            way = draw.randrange(4)
            if way == 0:
                text = text[:spot]
            elif way == 1:
                text = text[:spot] + draw.choice("()=!,:aXs0_ \n#|[]~@Z9") + text[spot:]
            elif way == 2:
                text = text[:spot] + text[spot + 1:]
            else:
                words = ("all", "and", "not", "yes", "X", "X0", "p", "[]", "|", "not yes |")
                text = text[:spot] + " " + draw.choice(words) + " " + text[spot:]
            told = read(ClauseDescent, text)
            try:
                self.assertEqual(clause_of(text), told, text)
            except BadText as error:
                wrong += 1
                self.assertIsNone(told, text)
                self.assertTrue(is_first_wrong(ClauseDescent, text, error.column), (text, error.column))
        self.assertGreater(wrong, 400)


class ToldTest(unittest.TestCase):

    def test_by_hand(self):
        told = {
            (): "[]",
            ((True, ("p", 0), YES), (False, ("q",), YES)): "p(X0) | not q",
            ((True, A, B), (False, 3, ("f", 0, A))): "a = b | X3 != f(X0, a)",
            ((True, YES, YES), (False, YES, YES)): "yes | not yes",
            ((True, YES, ("p",)), (False, YES, ("p",))): "yes = p | yes != p",
            ((False, 10, 1),): "X10 != X1",
        }
        for clause, text in told.items():
            self.assertEqual(clause_text(clause), text)
            self.assertEqual(clause_of(text), clause)


class LimitTest(unittest.TestCase):

    def test_long_texts(self):
        texts = ["p | " * 99 + "p", "f(" * 20 + "X0" + ")" * 20 + " != " + "f(" * 20 + "a" + ")" * 20,
                 "g(" + "X1, " * 90 + "X1) = a", " " * 199 + "[]" + " " * 199]
        for text in texts:
            self.assertLessEqual(len(text), 400)
            clause = clause_of(text)
            self.assertEqual(clause_text(clause), text.strip(" "))
            with self.assertRaises(BadText) as held:
                clause_of(text + "]")
            self.assertEqual(held.exception.column, len(text) + 1)
        self.assertEqual(len(clause_of("f(" * 150 + "X0" + ")" * 150)), 1)


if __name__ == "__main__":
    unittest.main()
