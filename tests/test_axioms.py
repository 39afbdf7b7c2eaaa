"""Point [71]: texts of axioms."""

import re
import unittest

from downtoground.errors import BadLine, BadName, Unlike
from downtoground.texts import sentence_of, sentence_text
from downtoground.theories import Theory
from tests.grammar import WORDS, SentenceDescent, can_begin, read
from tests.helpers import drawer, strange_values
from tests.sentencing import drawn, free_greats, names_of

NAME = "[a-z][a-z0-9_]{0,11}"


def head_of(line):
    """The match of the NAME and the : with which a line begins, or None."""
    return re.match(f" *({NAME}) *:", line)


def ranks_of(line):
    """The list of names of a line of ranks, or None."""
    found = re.fullmatch(f" *ranks((?: +{NAME})+) *", line)
    names = found.group(1).split() if found else []
    return names if names and not set(names) & set(WORDS) else None


def is_right(line, taken=(), told=False):
    """Whether a line is right, but for that its sentence is closed."""
    if not line.strip(" ") or ranks_of(line) is not None and not told:
        return True
    head = head_of(line)
    if not head or head.group(1) in WORDS or head.group(1) in taken:
        return False
    return read(SentenceDescent, line[head.end():]) is not None


def may_begin(piece):
    """Whether some right line, no NAME being told yet, begins with a piece."""
    head = head_of(piece)
    if head:
        return head.group(1) not in WORDS and can_begin(SentenceDescent, piece[head.end():])
    return any(is_right(piece + tail) for tail in ("", "z", ":p", "z:p", "0:p", " z", "_", "s z", "ks z", "nks z", "anks z"))


def wrong_column(line, taken, told):
    """The column of the first thing wrong in a line, or None."""
    if is_right(line, taken, told):
        head = head_of(line) if line.strip(" ") and ranks_of(line) is None else None
        sentence = read(SentenceDescent, line[head.end():]) if head else None
        return len(line) + 1 if sentence and free_greats(sentence) else None
    known = re.match(f" *({NAME})[ :]", line)
    if known and known.group(1) in taken and (known.group(1) != "ranks" or head_of(line)):
        return known.start(1) + 1
    for end in range(1, len(line) + 1):
        if not may_begin(line[:end]):
            return end
    return len(line) + 1


def first_wrong(text):
    """The pair (line, column) of BadLine, or None."""
    taken = []
    told = False
    for number, line in enumerate(text.split("\n")):
        column = wrong_column(line, taken, told)
        if column is not None:
            return (number + 1, column)
        if ranks_of(line) is not None:
            told = True
        elif line.strip(" "):
            taken.append(head_of(line).group(1))
    return None


class TextsTest(unittest.TestCase):

    def assert_bad(self, text, line, column):
        for make in (Theory, Theory("zz9: zz9").put):
            with self.assertRaises(BadLine) as caught:
                make(text)
            self.assertEqual((caught.exception.line, caught.exception.column), (line, column), text)

    def test_right_ones(self):
        for text, names in (
                ("", ()), ("\n", ()), ("  \n\n ", ()), ("a: p", ("a",)), ("a: p\n", ("a",)), ("  a  :p  \n b:q", ("a", "b")),
                ("\n a: p\n\n\nb : all X: p2(X)\n  ", ("a", "b")), ("ranks: p", ("ranks",)), ("ranks : p\nranks p", ("ranks",)),
                ("ranks p q\na: p\nb: q", ("a", "b")), ("a: p\n  ranks   p   ", ("a",)), ("a: p\nranks p\nranks: p", ("a", "ranks")),
                ("all_1: p", ("all_1",)), ("abcdefghijkl: p", ("abcdefghijkl",)), ("p: p\nq: not p", ("p", "q")),
                ("a: all X: p(X)\nb: some X: p(X)", ("a", "b"))):
            self.assertEqual(Theory(text).names(), names, text)
            theory = Theory("zz9: zz9")
            theory.put(text)
            self.assertEqual(theory.names(), ("zz9",) + names)

    def test_what_is_told(self):
        theory = Theory("one: all X Y: p(X, Y) then p(Y, X)\n two :p(a,a)")
        self.assertEqual(theory.get("one"), sentence_of("all X Y: p(X, Y) then p(Y, X)"))
        self.assertEqual(theory.get("two"), ("is", ("p", ("a",), ("a",))))

    def test_each_way_to_be_wrong(self):
        for text, line, column in (
                ("a", 1, 2), ("a ", 1, 3), ("A: p", 1, 1), ("1: p", 1, 1), (": p", 1, 1), ("_a: p", 1, 1), ("a p", 1, 3),
                ("a-b: p", 1, 2), ("aB: p", 1, 2), ("a:", 1, 3), ("a: ", 1, 4), ("a: p q", 1, 6), ("a: p and", 1, 9),
                ("a: X", 1, 5), ("a: p(", 1, 6), ("a: p)", 1, 5), ("a: p\t", 1, 5), ("\ta: p", 1, 1), ("a: p;", 1, 5),
                ("all: p", 1, 4), ("all : p", 1, 4), ("yes: p", 1, 4), ("not", 1, 4), ("then :p", 1, 5), ("abcdefghijklm: p", 1, 13),
                ("abcdefghijkl", 1, 13), ("a: p\na: q", 2, 1), ("a: p\n  a : q", 2, 3), ("a: p\na: q and", 2, 1), ("a: p\na", 2, 2),
                ("a: p\nab", 2, 3), ("a: p\nab c", 2, 4), ("a: p\n\n a:", 3, 2), ("a: p(X)", 1, 8), ("a: p(X)  ", 1, 10),
                ("a: all X: p(X, Y) and q(Z)\nb: p", 1, 27), ("a: X = X", 1, 9), ("a: (all X: p(X)) or p(X)", 1, 25),
                ("ranks", 1, 6), ("ranks ", 1, 7), ("ranks 1", 1, 7), ("ranks A", 1, 7), ("ranks a,b", 1, 8), ("ranks a:b", 1, 8),
                ("ranks a :b", 1, 9), ("ranks a b-", 1, 10), ("ranks all", 1, 10), ("ranks all b", 1, 10), ("ranks a yes", 1, 12),
                ("ranksa", 1, 7), ("ranks;", 1, 6), ("ranks abcdefghijklm", 1, 19), ("a: p\nranks p\nranks p", 3, 8),
                ("a: p\nranks p\n\nranks q ", 4, 9), ("ranks p\nranks p q\na: p", 2, 10), ("a: p\nranks p\nranks p,", 3, 8),
                ("a: p\nranks p\nranks", 3, 6), ("ranks: p\nranks: q", 2, 1), ("ranks: p\n ranks : q", 2, 2),
                ("a: p\r\nb: q", 1, 5), ("a: all X p(X)", 1, 10), ("a: p\n b: q r\nc: (", 2, 7), ("\n\n%", 3, 1)):
            self.assert_bad(text, line, column)
            self.assertEqual(first_wrong(text), (line, column), text)

    def test_what_is_no_string(self):
        for thing in strange_values() + [b"a: p", ["a: p"], ("a: p",)]:
            if not isinstance(thing, str):
                self.assert_bad(thing, 0, 0)

    def test_lines_drawn_with_one_character_changed(self):
        draw = drawer(71)
        signs = " :,()=!_aXzA1;\n"
        wrong = 0
        for _ in range(300):
            lines = []
            for number in range(draw.randint(1, 3)):
                body = sentence_text(drawn(draw, (), ("not", "and", "or", "all", "some"), draw.randint(0, 2)))
                lines.append(draw.choice(("", " ")) + draw.choice("abc") + str(number) + draw.choice((":", " : ")) + body)
            if draw.random() < 0.4:
                lines.insert(draw.randint(0, len(lines)), "ranks a f")
            if draw.random() < 0.3:
                lines.insert(draw.randint(0, len(lines)), draw.choice(lines))
            text = "\n".join(lines) + draw.choice(("", "\n", "\n \n"))
            if draw.random() < 0.8:
                spot = draw.randrange(len(text))
                text = text[:spot] + draw.choice(("", draw.choice(signs))) + text[spot + draw.randint(0, 1):]
            expected = first_wrong(text)
            try:
                Theory(text)
                found = None
            except BadLine as error:
                found = (error.line, error.column)
            except (Unlike, BadName):
                found = None
            self.assertEqual(found, expected, repr(text))
            wrong += expected is not None
        self.assertGreater(wrong, 100)
        self.assertEqual(names_of(sentence_of("p(a)")), ["p", "a"])


if __name__ == "__main__":
    unittest.main()
