"""Points [9] to [11]: terms, putting in, matching."""

import itertools
import unittest

from downtoground.terms import at, behind, match, paths_of, put, put_at, renamed, size, variables_of
from tests.helpers import all_terms, chain_of, drawer, drawn_term, filled, variables

NAMES = (("a", 0), ("b", 0), ("f", 1), ("g", 2), ("h", 3))
A, B = ("a",), ("b",)
DEEP = ("h", ("g", 0, ("f", ("f", 3))), ("a",), ("g", ("f", 0), 1))


def drawn_terms(seed, count, variable_count, size_to):
    draw = drawer(seed)
    return [drawn_term(draw, NAMES, variable_count, draw.randint(1, size_to)) for _ in range(count)]


def drawn_substitution(draw, variable_count, size_to):
    table = {variable: drawn_term(draw, NAMES, variable_count, draw.randint(1, size_to))
             for variable in range(variable_count + 1) if draw.random() < 0.6}
    return tuple((variable, table[variable]) for variable in sorted(table) if table[variable] != variable)


def small_substitutions():
    """All substitutions of the variables 0 and 1 by terms of a depth of at most 1, without g and h."""
    terms = all_terms((("a", 0), ("f", 1)), (0, 1, 2), 1)
    return [tuple(pair for pair in ((0, s), (1, t)) if pair[0] != pair[1]) for s in terms for t in terms]


class WholeTermsTest(unittest.TestCase):

    def test_size(self):
        self.assertEqual(size(0), 1)
        self.assertEqual(size(A), 1)
        self.assertEqual(size(("f", 7)), 2)
        self.assertEqual(size(("g", 7, 7)), 3)
        self.assertEqual(size(DEEP), 11)
        self.assertEqual(size(chain_of("f", 63, 0)), 64)
        self.assertEqual(size(("", ("",), ("x y",))), 3)

    def test_size_is_the_number_of_paths(self):
        for term in drawn_terms(1, 200, 4, 64):
            self.assertEqual(size(term), len(paths_of(term)))

    def test_variables_of(self):
        self.assertEqual(variables_of(5), (5,))
        self.assertEqual(variables_of(A), ())
        self.assertEqual(variables_of(DEEP), (0, 1, 3))
        self.assertEqual(variables_of(("h", 12, 3, ("g", 12, 100))), (3, 12, 100))
        for term in drawn_terms(2, 200, 6, 64):
            self.assertEqual(variables_of(term), tuple(sorted(set(variables(term)))))

    def test_paths_of(self):
        self.assertEqual(paths_of(3), ((),))
        self.assertEqual(paths_of(A), ((),))
        self.assertEqual(paths_of(("f", A)), ((), (0,)))
        self.assertEqual(paths_of(("g", ("f", 0), 1)), ((), (0,), (0, 0), (1,)))
        self.assertEqual(paths_of(("h", 0, ("g", A, 1), ("f", 2))),
                         ((), (0,), (1,), (1, 0), (1, 1), (2,), (2, 0)))

    def test_paths_are_told_ahead_of_those_within_and_from_the_left(self):
        for term in drawn_terms(3, 200, 3, 64):
            told = paths_of(term)
            self.assertIsInstance(told, tuple)
            # With rows compared item by item, a beginning is ahead of what it begins.
            self.assertEqual(told, tuple(sorted(told)))
            self.assertEqual(len(told), len(set(told)))

    def test_at(self):
        self.assertEqual(at(DEEP, ()), DEEP)
        self.assertEqual(at(DEEP, (0,)), ("g", 0, ("f", ("f", 3))))
        self.assertEqual(at(DEEP, (0, 0)), 0)
        self.assertEqual(at(DEEP, (0, 1, 0, 0)), 3)
        self.assertEqual(at(DEEP, (1,)), A)
        self.assertEqual(at(DEEP, (2, 1)), 1)
        self.assertEqual(at(4, ()), 4)

    def test_put_at_changes_that_place_alone(self):
        new = ("new", 9)
        for term in drawn_terms(4, 100, 3, 40) + [DEEP, 0, A]:
            for path in paths_of(term):
                changed = put_at(term, path, new)
                self.assertEqual(at(changed, path), new)
                self.assertEqual(put_at(changed, path, at(term, path)), term)
                for other in paths_of(term):
                    if other[:len(path)] == path or path[:len(other)] == other:
                        continue
                    self.assertEqual(at(changed, other), at(term, other))
                for above in range(len(path)):
                    self.assertEqual(at(changed, path[:above])[0], at(term, path[:above])[0])
                    self.assertEqual(len(at(changed, path[:above])), len(at(term, path[:above])))

    def test_put_at_by_hand(self):
        self.assertEqual(put_at(("g", A, 0), (), B), B)
        self.assertEqual(put_at(("g", A, 0), (0,), B), ("g", B, 0))
        self.assertEqual(put_at(("g", A, 0), (1,), B), ("g", A, B))
        self.assertEqual(put_at(("h", 0, ("g", 1, 2), A), (1, 1), ("f", 0)),
                         ("h", 0, ("g", 1, ("f", 0)), A))


class PuttingInTest(unittest.TestCase):

    def test_put_at_once(self):
        term = ("g", 0, ("f", 1))
        self.assertEqual(put(term, ()), term)
        self.assertEqual(put(term, ((0, 1), (1, 0))), ("g", 1, ("f", 0)))
        self.assertEqual(put(term, ((0, ("f", 1)), (1, 0))), ("g", ("f", 1), ("f", 0)))
        self.assertEqual(put(term, ((0, ("f", 1)), (1, ("f", 0)))), ("g", ("f", 1), ("f", ("f", 0))))
        self.assertEqual(put(term, ((7, A),)), term)
        self.assertEqual(put(0, ((0, A),)), A)
        self.assertEqual(put(1, ((0, A),)), 1)
        self.assertEqual(put(A, ((0, B),)), A)

    def test_put_against_the_plain_reckoning(self):
        draw = drawer(5)
        for term in drawn_terms(6, 200, 4, 64):
            pairs = drawn_substitution(draw, 4, 10)
            self.assertEqual(put(term, pairs), filled(term, dict(pairs)))

    def test_behind_by_hand(self):
        self.assertEqual(behind((), ()), ())
        self.assertEqual(behind(((0, A),), ()), ((0, A),))
        self.assertEqual(behind((), ((0, A),)), ((0, A),))
        self.assertEqual(behind(((0, 1),), ((1, 0),)), ((1, 0),))
        self.assertEqual(behind(((0, 1), (1, 0)), ((0, 1), (1, 0))), ())
        self.assertEqual(behind(((0, ("f", 1)),), ((1, ("f", 0)),)),
                         ((0, ("f", ("f", 0))), (1, ("f", 0))))
        self.assertEqual(behind(((3, 2),), ((0, B), (2, A))), ((0, B), (2, A), (3, A)))
        self.assertEqual(behind(((0, A),), ((0, B),)), ((0, A),))

    def test_behind_is_one_put_in_behind_the_other(self):
        draw = drawer(7)
        for term in drawn_terms(8, 300, 4, 30):
            one = drawn_substitution(draw, 4, 6)
            other = drawn_substitution(draw, 4, 6)
            self.assert_behind(one, other, [term, 0, 1, 2, 3, 4, 5])

    def test_behind_for_all_small_ones(self):
        for one, other in itertools.product(small_substitutions(), repeat=2):
            self.assert_behind(one, other, [0, 1, 2, ("g", 0, 1)])

    def assert_behind(self, one, other, terms):
        told = behind(one, other)
        for term in terms:
            self.assertEqual(put(term, told), filled(filled(term, dict(one)), dict(other)))
        found = [pair[0] for pair in told]
        self.assertIsInstance(told, tuple)
        self.assertEqual(found, sorted(set(found)))
        self.assertTrue(all(isinstance(pair, tuple) and pair[0] != pair[1] for pair in told))

    def test_renamed(self):
        self.assertEqual(renamed(A, 3), A)
        self.assertEqual(renamed(5, 0), 0)
        self.assertEqual(renamed(0, 5), 5)
        self.assertEqual(renamed(("h", 7, ("g", 2, 7), 0), 0), ("h", 0, ("g", 1, 0), 2))
        self.assertEqual(renamed(("h", 0, ("g", 1, 0), 2), 1), ("h", 1, ("g", 2, 1), 3))
        self.assertEqual(renamed(("g", 1, 0), 0), ("g", 0, 1))

    def test_renamed_goes_by_the_order_of_coming(self):
        for term in drawn_terms(9, 200, 6, 64):
            for first in (0, 3, 40):
                coming = list(dict.fromkeys(variables(term)))
                table = {variable: first + index for index, variable in enumerate(coming)}
                self.assertEqual(renamed(term, first), filled(term, table))


class MatchingTest(unittest.TestCase):

    def test_by_hand(self):
        self.assertEqual(match(0, A), ((0, A),))
        self.assertEqual(match(0, 0), ())
        self.assertEqual(match(0, 1), ((0, 1),))
        self.assertEqual(match(A, A), ())
        self.assertIsNone(match(A, B))
        self.assertIsNone(match(A, 0))
        self.assertIsNone(match(("f", 0), 0))
        self.assertEqual(match(0, ("f", 0)), ((0, ("f", 0)),))
        self.assertEqual(match(("g", 0, 1), ("g", 1, 0)), ((0, 1), (1, 0)))
        self.assertEqual(match(("g", 0, 1), ("g", ("f", 1), ("f", 0))), ((0, ("f", 1)), (1, ("f", 0))))
        self.assertEqual(match(("g", 1, 0), ("g", A, B)), ((0, B), (1, A)))

    def test_variables_that_come_twice(self):
        self.assertEqual(match(("g", 0, 0), ("g", A, A)), ((0, A),))
        self.assertIsNone(match(("g", 0, 0), ("g", A, B)))
        self.assertIsNone(match(("g", 0, 0), ("g", 0, 1)))
        self.assertIsNone(match(("g", 0, 0), ("g", 1, 0)))
        self.assertEqual(match(("g", 0, 0), ("g", 1, 1)), ((0, 1),))
        self.assertIsNone(match(("g", 0, ("f", 0)), ("g", 0, ("f", 1))))

    def test_unlike_names_and_numbers_of_arguments(self):
        self.assertIsNone(match(("f", 0), ("g", 0, 0)))
        self.assertIsNone(match(("f", 0), ("f", 0, 0)))
        self.assertIsNone(match(("f",), ("f", 0)))
        self.assertIsNone(match(("g", 0, ("f", A)), ("g", 1, ("f", B))))

    def test_what_is_put_into_a_pattern_is_matched_again(self):
        draw = drawer(10)
        for pattern in drawn_terms(11, 300, 4, 30):
            pairs = drawn_substitution(draw, 4, 8)
            inside = set(variables(pattern))
            expected = tuple(pair for pair in pairs if pair[0] in inside)
            self.assertEqual(match(pattern, put(pattern, pairs)), expected)

    def test_none_exactly_where_nothing_matches(self):
        names = (("a", 0), ("f", 1), ("g", 2))
        patterns = all_terms(names, (0, 1), 1) + [("g", 0, ("f", 0)), ("g", ("f", 1), 0)]
        terms = all_terms(names, (0, 1), 1)
        terms += [("g", s, t) for s in terms for t in terms] + [("f", s) for s in terms]
        found = 0
        for pattern, term in itertools.product(patterns, terms):
            told = match(pattern, term)
            parts = [at(term, path) for path in paths_of(term)]
            inside = sorted(set(variables(pattern)))
            matching = [row for row in itertools.product(parts, repeat=len(inside))
                        if filled(pattern, dict(zip(inside, row))) == term]
            if told is None:
                self.assertEqual(matching, [], (pattern, term))
            else:
                found += 1
                self.assertEqual(put(pattern, told), term)
                expected = tuple((v, t) for v, t in zip(inside, matching[0]) if v != t)
                self.assertEqual(told, expected)
        self.assertGreater(found, 100)


class GreatestSizeTest(unittest.TestCase):

    def test_terms_of_the_greatest_size_told(self):
        for term in (chain_of("f", 63, 0), chain_of("f", 61, ("g", 1, 2)), balanced(5)):
            paths = paths_of(term)
            self.assertEqual(put_at(term, paths[-1], at(term, paths[-1])), term)
            self.assertEqual(put(term, ((0, A),)), filled(term, {0: A}))
            self.assertEqual(match(term, put(term, ((0, A),))), ((0, A),) if 0 in variables(term) else ())
            self.assertEqual(renamed(term, 0), renamed(renamed(term, 8), 0))


def balanced(depth, leaf=0):
    if depth == 0:
        return leaf % 3
    return ("g", balanced(depth - 1, 2 * leaf), balanced(depth - 1, 2 * leaf + 1))


if __name__ == "__main__":
    unittest.main()
