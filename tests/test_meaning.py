"""Points [25] and [26]: what sentences mean in structures, and their plain forms."""

import copy
import itertools
import unittest

from downtoground.sentences import apart, free, inwards, is_so, meaning, plain
from downtoground.structures import Structure
from downtoground.texts import sentence_of
from tests.helpers import drawer
from tests.sentencing import (GREATS, THINGS, TRUTHS, WORDS, drawn, free_greats, gone_inwards, paths_of, part_at, put_greats,
                              set_apart, truth, without_then_and_same)


def drawn_structure(draw, size, sentence_names=THINGS + TRUTHS):
    tables = {}
    for name, arity in sentence_names:
        values = (False, True) if (name, arity) in TRUTHS else range(size)
        tables[name] = tuple(draw.choice(values) for _ in range(size ** arity))
    return Structure(size, tables)


def all_values(size, greats):
    for row in itertools.product(range(size), repeat=len(greats)):
        yield dict(zip(greats, row))


def sentences(seed, many, greats, words=WORDS, most=6):
    draw = drawer(seed)
    for _ in range(many):
        yield draw, drawn(draw, greats, words, draw.randint(0, most))


class FreeTest(unittest.TestCase):

    def test_by_hand(self):
        p = ("is", ("p", "X"))
        r = ("is", ("r", "Y", ("g", "X", "Z")))
        for sentence, expected in (
                (p, ("X",)), (r, ("Y", "X", "Z")), (("all", "X", p), ()), (("all", "Y", p), ("X",)),
                (("and", ("all", "X", p), p), ("X",)), (("and", r, p), ("Y", "X", "Z")), (("is", ("q",)), ()),
                (("and", ("some", "Y", r), ("is", ("p", "Y"))), ("X", "Z", "Y")), (("equal", "Z", "Z"), ("Z",)),
                (("all", "X", ("all", "X", ("and", p, r))), ("Y", "Z"))):
            self.assertEqual(free(sentence), expected)

    def test_drawn(self):
        for _, sentence in sentences(25, 400, GREATS[:3]):
            self.assertIsInstance(free(sentence), tuple)
            self.assertEqual(list(free(sentence)), free_greats(sentence))
        for _, sentence in sentences(26, 100, ()):
            self.assertEqual(free(sentence), ())


class MeaningTest(unittest.TestCase):

    def test_all_cases_in_all_ways(self):
        structure = Structure(1, {"t": (True,), "n": (False,)})
        atoms = (("is", ("t",)), ("is", ("n",)))
        for left, right in itertools.product((0, 1), repeat=2):
            one, other = left == 0, right == 0
            for word, expected in (("and", one and other), ("or", one or other), ("then", not one or other),
                                   ("same", one == other)):
                self.assertIs(meaning(structure, (word, atoms[left], atoms[right]), {}), expected)
            self.assertIs(meaning(structure, ("not", atoms[left]), {}), not one)

    def test_great_names_bound_twice(self):
        structure = Structure(2, {"p": (True, False), "r": (True, True, False, False)})
        for text, expected in (("some X: p(X) and all X: p(X)", False), ("some X: p(X) and some X: not p(X)", True),
                               ("all X: some X: not p(X)", True), ("all X: all X: p(X)", False),
                               ("some X: (not p(X) and some X: p(X))", True), ("all Y: some X: r(X, Y)", True),
                               ("some X: all Y: r(Y, X)", False), ("all X: (p(X) same some Y: r(X, Y))", True)):
            self.assertIs(is_so(structure, sentence_of(text)), expected, text)
        inner = ("some", "X", ("not", ("is", ("p", "X"))))
        self.assertIs(meaning(structure, ("and", inner, ("is", ("p", "X"))), {"X": 0}), True)
        self.assertIs(meaning(structure, ("and", inner, ("is", ("p", "X"))), {"X": 1, "other": 0}), False)

    def test_drawn(self):
        told = []
        for draw, sentence in sentences(27, 500, GREATS[:2]):
            size = draw.choice((1, 2, 2, 3))
            structure = drawn_structure(draw, size)
            for values in all_values(size, GREATS[:2]):
                expected = truth(size, structure.tables, sentence, values)
                self.assertIs(meaning(structure, sentence, values), expected)
                told.append(expected)
        self.assertGreater(min(told.count(True), told.count(False)), 300)

    def test_closed_ones(self):
        for draw, sentence in sentences(28, 300, ()):
            structure = drawn_structure(draw, draw.choice((1, 2, 3)))
            self.assertIs(is_so(structure, sentence), truth(structure.size, structure.tables, sentence, {}))

    def test_what_is_handed_in_stays(self):
        for draw, sentence in sentences(29, 60, GREATS[:2]):
            structure = drawn_structure(draw, 2)
            tables = copy.deepcopy(structure.tables)
            values = {"X": 0, "Y": 1, "Z": 5}
            meaning(structure, sentence, values)
            self.assertEqual(values, {"X": 0, "Y": 1, "Z": 5})
            self.assertEqual(structure.tables, tables)


class FormsTest(unittest.TestCase):
    """Fact F, and what each form looks like."""

    def assert_means_alike(self, draw, sentence, other):
        greats = free(sentence)
        for size in (1, 2, 3):
            structure = drawn_structure(draw, size)
            for values in all_values(size, greats):
                self.assertEqual(meaning(structure, other, values), meaning(structure, sentence, values))

    def test_by_hand(self):
        p, q, x = ("is", ("p",)), ("is", ("q",)), ("equal", "X", ("a",))
        self.assertEqual(plain(("then", p, q)), ("or", ("not", p), q))
        self.assertEqual(plain(("same", p, ("then", q, p))),
                         ("and", ("or", ("not", p), ("or", ("not", q), p)), ("or", ("not", ("or", ("not", q), p)), p)))
        self.assertEqual(plain(("not", ("all", "X", ("then", x, p)))), ("not", ("all", "X", ("or", ("not", x), p))))
        self.assertEqual(inwards(("not", ("all", "X", ("and", x, ("not", p))))), ("some", "X", ("or", ("not", x), p)))
        self.assertEqual(inwards(("not", ("not", ("not", ("some", "X", x))))), ("all", "X", ("not", x)))
        self.assertEqual(inwards(("not", ("or", ("not", ("not", p)), q))), ("and", ("not", p), ("not", q)))
        self.assertEqual(apart(sentence_of("all Y: p(Y) and some Z Y: r(Y, Z) or some X1: p(X1)")),
                         sentence_of("all X1: p(X1) and some X2 X3: r(X3, X2) or some X4: p(X4)"))
        self.assertEqual(apart(sentence_of("all X2: (all X1: r(X1, X2)) then some X2: p(X2)")),
                         sentence_of("all X1: (all X2: r(X2, X1)) then some X3: p(X3)"))

    def test_plain(self):
        for draw, sentence in sentences(30, 250, GREATS[:2]):
            told = plain(sentence)
            self.assertEqual(told, without_then_and_same(sentence))
            words = [part_at(told, path)[0] for path in paths_of(told)]
            self.assertNotIn("then", words)
            self.assertNotIn("same", words)
            self.assert_means_alike(draw, sentence, told)

    def test_inwards(self):
        words = tuple(word for word in WORDS if word not in ("then", "same"))
        for draw, sentence in sentences(31, 250, GREATS[:2], words, 8):
            told = inwards(sentence)
            self.assertEqual(told, gone_inwards(sentence))
            for path in paths_of(told):
                if part_at(told, path)[0] == "not":
                    self.assertIn(part_at(told, path)[1][0], ("is", "equal"))
            self.assert_means_alike(draw, sentence, told)
            self.assertEqual(free(told), free(sentence))

    def test_apart(self):
        for draw, sentence in sentences(32, 250, (), WORDS, 8):
            told = apart(sentence)
            self.assertEqual(told, set_apart(sentence))
            bound = [part_at(told, path)[1] for path in paths_of(told) if part_at(told, path)[0] in ("all", "some")]
            self.assertEqual(bound, ["X" + str(number + 1) for number in range(len(bound))])
            self.assertEqual(free(told), ())
            self.assert_means_alike(draw, sentence, told)
            shape = {great: "X" for great in GREATS + tuple(bound)}
            self.assertEqual(put_greats(told, shape), put_greats(sentence, shape))

    def test_sizes(self):
        deep = ("is", ("q",))
        for _ in range(2):
            deep = ("same", ("is", ("p", ("a",))), deep)
        for draw, sentence in ((drawer(33), deep), (drawer(33), ("same", deep[1], ("not", ("all", "X", ("is", ("p", "X"))))))):
            self.assert_means_alike(draw, sentence, inwards(plain(sentence)))
            self.assertLessEqual(len(repr(plain(sentence))), 2 * 4 ** 2 * len(repr(sentence)))


if __name__ == "__main__":
    unittest.main()
