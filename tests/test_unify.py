"""Point [12]: unifiers, what bars them, and the judge of both."""

import itertools
import unittest

from downtoground.terms import Apart, Unifier, at, behind, is_unify, paths_of, put, size, unify
from tests.helpers import Awkward, all_terms, chain_of, drawer, drawn_term, filled, strange_values, variables

A, B = ("a",), ("b",)
NAMES = (("a", 0), ("b", 0), ("f", 1), ("g", 2), ("h", 3))


def f(term):
    return ("f", term)


def g(one, other):
    return ("g", one, other)


# Pairs without a unifier, and what their end must be.
BARRED = [
    (A, B, "unlike"),
    (A, f(A), "unlike"),
    (f(0), g(0, 1), "unlike"),
    (("f", 0), ("f", 0, 1), "unlike"),
    (f(f(f(f(A)))), f(f(f(f(B)))), "unlike"),
    (g(0, f(f(A))), g(1, f(f(B))), "unlike"),
    (g(0, 0), g(A, B), "unlike"),
    (g(0, f(0)), g(A, f(B)), "unlike"),
    (("h", 0, 1, 0), ("h", 1, A, B), "unlike"),
    (("h", 0, 0, 1), ("h", g(1, A), g(2, B), 2), "unlike"),
    (0, f(0), "ring"),
    (f(0), 0, "ring"),
    (g(0, 0), g(1, f(1)), "ring"),
    (g(0, 1), g(f(1), f(0)), "ring"),
    (g(0, 1), g(1, f(0)), "ring"),
    (("h", 0, 1, 2), ("h", f(1), f(2), f(0)), "ring"),
    (("h", 0, 1, 2), ("h", 1, 2, g(A, 0)), "ring"),
    (("h", 0, 1, 2), ("h", g(A, 1), 2, g(f(0), B)), "ring"),
    (("h", 1, 2, 0), ("h", 0, 1, f(2)), "ring"),
    (g(g(0, 1), g(2, 3)), g(g(1, 2), g(3, f(f(0)))), "ring"),
]

# Pairs with a unifier.
JOINED = [
    (0, 0), (0, 1), (A, A), (0, A), (f(0), 1), (f(0), f(1)), (g(0, 1), g(1, 0)), (g(0, 0), g(0, 1)),
    (g(0, f(1)), g(f(2), 0)), (("h", 0, 1, 2), ("h", f(1), f(2), A)), (g(0, 0), g(f(1), f(2))),
    (("h", 0, 1, 2), ("h", g(1, 1), g(2, 2), g(3, 3))), (g(g(0, 1), 2), g(2, g(1, 0))),
    (("h", 0, 0, 1), ("h", g(1, A), g(2, A), 2)), (g(0, g(1, 2)), g(g(1, 2), 0)),
]


def walked(one, other, told):
    """The equations that an Apart tells, walked step by step as the document says."""
    equations = [(one, other)]
    for step in told.steps:
        if step[0] == "down":
            _, n, k = step
            left, right = equations[n]
            assert isinstance(left, tuple) and isinstance(right, tuple)
            assert left[0] == right[0] and len(left) == len(right)
            equations.append((at(left, (k,)), at(right, (k,))))
        else:
            word, n, p, m, q = step
            assert word == "joined"
            assert isinstance(equations[n][p], int) and equations[n][p] == equations[m][q]
            equations.append((equations[n][1 - p], equations[m][1 - q]))
    return equations


class UnifyTest(unittest.TestCase):

    def assert_unifier(self, one, other, told):
        self.assertIsInstance(told, Unifier)
        pairs = told.pairs
        self.assertIsInstance(pairs, tuple)
        self.assertEqual([v for v, _ in pairs], sorted({v for v, _ in pairs}))
        self.assertTrue(all(isinstance(pair, tuple) and pair[0] != pair[1] for pair in pairs))
        self.assertEqual(put(one, pairs), put(other, pairs))
        self.assertEqual(behind(pairs, pairs), pairs)
        own = set(variables(one) + variables(other))
        self.assertLessEqual({v for pair in pairs for v in [pair[0]] + variables(pair[1])}, own)

    def assert_apart(self, one, other, told):
        self.assertIsInstance(told, Apart)
        self.assertIsInstance(told.steps, tuple)
        equations = walked(one, other, told)
        self.assertEqual(len(equations), len(set(equations)))
        self.assertLessEqual(len(equations), (size(one) + size(other)) ** 2)
        word, rest = told.end
        if word == "unlike":
            left, right = equations[rest]
            self.assertTrue(isinstance(left, tuple) and isinstance(right, tuple))
            self.assertTrue(left[0] != right[0] or len(left) != len(right))
            return
        self.assertEqual(word, "ring")
        self.assertGreater(len(rest), 0)
        starts = [equations[n][p] for n, p, _ in rest]
        self.assertTrue(all(isinstance(start, int) for start in starts))
        reached = [at(equations[n][1 - p], path) for n, p, path in rest]
        self.assertEqual(reached, starts[1:] + starts[:1])
        self.assertTrue(any(path != () for _, _, path in rest))

    def assert_told(self, one, other):
        told = unify(one, other)
        if isinstance(told, Unifier):
            self.assert_unifier(one, other, told)
        else:
            self.assert_apart(one, other, told)
        self.assertIs(is_unify(one, other, told), True)
        return told

    def test_pairs_with_a_unifier(self):
        for one, other in JOINED:
            self.assertIsInstance(self.assert_told(one, other), Unifier)
            self.assertIsInstance(self.assert_told(other, one), Unifier)

    def test_pairs_without_one(self):
        for one, other, word in BARRED:
            self.assertIsInstance(self.assert_told(one, other), Apart)
            self.assertIsInstance(self.assert_told(other, one), Apart)
            self.assertEqual(unify(one, other).end[0], word, (one, other))

    def test_those_that_are_one_alone(self):
        self.assertEqual(unify(A, A).pairs, ())
        self.assertEqual(unify(0, A).pairs, ((0, A),))
        self.assertEqual(unify(g(0, f(0)), g(f(A), 1)).pairs, ((0, f(A)), (1, f(f(A)))))
        self.assertIn(unify(0, 1).pairs, (((0, 1),), ((1, 0),)))

    def test_all_small_terms_against_all_ground_fillings(self):
        names = (("a", 0), ("f", 1), ("g", 2))
        terms = all_terms(names, (0, 1), 1) + [f(f(0)), g(f(0), 1), g(0, f(1)), g(f(1), f(0)), f(g(0, 1))]
        ground = all_terms(names, (), 2)
        counted = {Unifier: 0, Apart: 0}
        for one, other in itertools.product(terms, repeat=2):
            told = self.assert_told(one, other)
            counted[told.__class__] += 1
            for row in itertools.product(ground, repeat=2):
                unifier = ((0, row[0]), (1, row[1]))
                if filled(one, dict(unifier)) == filled(other, dict(unifier)):
                    self.assertIsInstance(told, Unifier)
                    self.assertEqual(behind(told.pairs, unifier), unifier)
        self.assertGreater(min(counted.values()), 40)

    def test_every_unifier_with_variables_is_one_put_behind(self):
        names = (("a", 0), ("f", 1))
        ways = all_terms(names, (0, 1, 2, 3), 2)
        for one, other in JOINED:
            inside = sorted(set(variables(one) + variables(other)))
            if len(inside) > 2:
                continue
            told = unify(one, other)
            for row in itertools.product(ways, repeat=len(inside)):
                if filled(one, dict(zip(inside, row))) == filled(other, dict(zip(inside, row))):
                    unifier = tuple((v, t) for v, t in zip(inside, row) if v != t)
                    self.assertEqual(behind(told.pairs, unifier), unifier)

    def test_drawn_pairs(self):
        draw = drawer(12)
        counted = {Unifier: 0, Apart: 0}
        for _ in range(3000):
            one = drawn_term(draw, NAMES, 6, draw.randint(1, 16))
            other = drawn_term(draw, NAMES, 6, draw.randint(1, 16))
            if draw.random() < 0.5:
                other = one
                for path in draw.sample(paths_of(one), min(3, size(one))):
                    if path in paths_of(other):
                        spare = draw.randrange(6)
                        other = put_spare(other, path, spare)
            counted[self.assert_told(one, other).__class__] += 1
        self.assertGreater(min(counted.values()), 300)

    def test_drawn_instances_have_a_unifier(self):
        draw = drawer(13)
        for _ in range(500):
            one = drawn_term(draw, NAMES, 3, draw.randint(1, 12))
            unifier = tuple((v, drawn_term(draw, NAMES, 0, draw.randint(1, 6))) for v in range(6))
            whole = put(one, unifier)
            other = whole
            for path in paths_of(whole):
                fitting = [v for v, t in unifier if v > 2 and t == at(whole, path)]
                if fitting and path in paths_of(other):
                    other = put_spare(other, path, fitting[0])
            told = self.assert_told(one, other)
            self.assertIsInstance(told, Unifier)
            self.assertEqual(behind(told.pairs, unifier), unifier)

    def test_the_greatest_sizes_told(self):
        # Each variable doubles what stands ahead of it: the greatest unifier for six variables.
        one = ("k", 0, 1, 2, 3, 4)
        other = ("k", g(1, 1), g(2, 2), g(3, 3), g(4, 4), g(5, 5))
        told = self.assert_told(one, other)
        self.assertEqual(size(dict(told.pairs)[0]), 63)
        self.assertEqual(set(variables(dict(told.pairs)[0])), {5})
        ring = ("k", g(1, 1), g(2, 2), g(3, 3), g(4, 4), g(0, 5))
        self.assertIsInstance(self.assert_told(one, ring), Apart)
        self.assertIsInstance(self.assert_told(chain_of("f", 15, 0), chain_of("f", 15, A)), Unifier)
        self.assertIsInstance(self.assert_told(chain_of("f", 15, B), chain_of("f", 15, A)), Apart)
        self.assertIsInstance(self.assert_told(chain_of("f", 15, 0), chain_of("f", 14, 0)), Apart)
        # Two rows of doublings held against one another: the same equation comes in many ways.
        one, other = ("k", 0, 1, 2, 3, 0, A), ("k", g(1, 1), g(4, 4), g(3, 3), g(5, 5), 2, B)
        self.assertIsInstance(self.assert_told(one, other), Apart)
        self.assertIsInstance(self.assert_told(one[:-1], other[:-1]), Unifier)
        self.assertIsInstance(self.assert_told(one[:1] + one[:0:-1], other[:1] + other[:0:-1]), Apart)


def put_spare(term, path, variable):
    if not path:
        return variable
    index = path[0] + 1
    return term[:index] + (put_spare(term[index], path[1:], variable),) + term[index + 1:]


class ClassesTest(unittest.TestCase):

    def test_a_list_is_copied_and_lists_within_stay(self):
        inner = [0, A]
        row = [inner]
        told = Unifier(row)
        row.append(1)
        self.assertEqual(told.pairs, (inner,))
        self.assertIs(told.pairs[0], inner)
        end = ["unlike", 0]
        told = Apart(row, end)
        end.append(2)
        row.clear()
        self.assertEqual(told.steps, (inner, 1))
        self.assertEqual(told.end, ("unlike", 0))

    def test_all_else_is_kept_just_as_it_is(self):
        for value in strange_values():
            if not isinstance(value, list):
                self.assertIs(Unifier(value).pairs, value)
                self.assertIs(Apart(value, None).steps, value)
                self.assertIs(Apart((), value).end, value)

    def test_objects_are_equal_to_themselves_alone(self):
        one = Unifier(())
        self.assertEqual(one, one)
        self.assertNotEqual(one, Unifier(()))
        self.assertNotEqual(Apart((), ()), Apart((), ()))
        self.assertNotEqual(one, ())


class JudgeTest(unittest.TestCase):

    def assert_not(self, one, other, told):
        self.assertIs(is_unify(one, other, told), False)

    def test_right_unifiers_of_unlike_forms(self):
        self.assertIs(is_unify(0, 1, Unifier(((0, 1),))), True)
        self.assertIs(is_unify(0, 1, Unifier(((1, 0),))), True)
        self.assertIs(is_unify(0, 1, Unifier([(1, 0)])), True)
        self.assertIs(is_unify(A, A, Unifier(())), True)
        three = ("h", 0, 1, 2), ("h", 1, 2, 0)
        for stays in (0, 1, 2):
            pairs = tuple((v, stays) for v in (0, 1, 2) if v != stays)
            self.assertIs(is_unify(*three, Unifier(pairs)), True)

    def test_wrong_unifiers(self):
        self.assert_not(0, 1, Unifier(()))
        self.assert_not(0, 0, Unifier(((0, 0),)))
        self.assert_not(0, 1, Unifier(((0, 1), (1, 0))))
        self.assert_not(0, 1, Unifier(((0, A), (1, A))))
        self.assert_not(0, 1, Unifier(((0, 2), (1, 2))))
        self.assert_not(0, 1, Unifier(((0, 1), (2, A))))
        self.assert_not(0, A, Unifier(((0, B),)))
        self.assert_not(0, f(1), Unifier(((0, f(2)), (1, 2))))
        self.assert_not(0, f(1), Unifier(((0, f(1)), (1, 1))))
        self.assert_not(0, f(1), Unifier(((0, f(A)), (1, A))))
        self.assert_not(g(0, 1), g(A, B), Unifier(((1, B), (0, A))))
        self.assert_not(g(0, 1), g(A, B), Unifier(((0, A), (0, A), (1, B))))
        self.assert_not(g(0, 1), g(1, f(2)), Unifier(((0, 1), (1, f(2)))))
        # These make both alike, put in again they change nothing, but they ask for more than both do.
        self.assert_not(g(0, 1), g(0, 1), Unifier(((0, 1),)))
        self.assert_not(("h", 0, 1, 2), ("h", 0, 1, f(0)), Unifier(((1, 0), (2, f(0)))))
        self.assert_not(("h", 0, 1, 2), ("h", 1, 0, 2), Unifier(((0, 2), (1, 2))))
        self.assert_not(A, B, Unifier(()))
        self.assert_not(0, f(0), Unifier(((0, f(0)),)))

    def test_true_and_false_are_no_numbers_and_lists_no_tuples(self):
        self.assert_not(0, 1, Unifier(((False, 1),)))
        self.assert_not(0, 1, Unifier(((0, True),)))
        self.assert_not(1, f(0), Unifier(((1, ("f", False)),)))
        self.assert_not(0, 1, Unifier(([0, 1],)))
        self.assert_not(0, A, Unifier(((0, ["a"]),)))
        self.assert_not(0, 1, Unifier(((0, 1.0),)))
        self.assert_not(A, B, Apart((), ("unlike", False)))
        self.assert_not(f(A), f(B), Apart((("down", 0, False),), ("unlike", 1)))
        self.assert_not(f(A), f(B), Apart((["down", 0, 0],), ("unlike", 1)))
        self.assert_not(0, f(0), Apart((), ("ring", ((0, False, (0,)),))))
        self.assert_not(0, f(0), Apart((), ("ring", ((0, 0, (False,)),))))
        self.assert_not(0, f(0), Apart((), ("ring", ((0, 0, [0]),))))
        self.assert_not(0, f(0), Apart((), ("ring", [(0, 0, (0,))])))
        self.assertIs(is_unify(0, f(0), Apart([], ["ring", ((0, 0, (0,)),)])), True)

    def test_apart_by_hand(self):
        rings = g(0, 1), g(f(1), f(0))
        downs = (("down", 0, 0), ("down", 0, 1))
        self.assertIs(is_unify(*rings, Apart(downs, ("ring", ((1, 0, (0,)), (2, 0, (0,)))))), True)
        self.assertIs(is_unify(*rings, Apart(downs, ("ring", ((2, 0, (0,)), (1, 0, (0,)))))), True)
        self.assertIs(is_unify(*rings, Apart(downs, ("ring", ((1, 0, (0,)), (2, 0, (0,))) * 2))), True)
        self.assert_not(*rings, Apart(downs, ("ring", ((1, 0, (0,)), (1, 0, (0,))))))
        self.assert_not(*rings, Apart(downs, ("ring", ((1, 0, (0,)),))))
        self.assert_not(*rings, Apart(downs, ("ring", ())))
        self.assert_not(*rings, Apart(downs, ("ring", ((1, 1, (0,)), (2, 0, (0,))))))
        self.assert_not(*rings, Apart(downs, ("ring", ((1, 0, ()), (2, 0, (0,))))))
        self.assert_not(*rings, Apart(downs, ("ring", ((1, 0, (1,)), (2, 0, (0,))))))
        self.assert_not(*rings, Apart(downs, ("ring", ((1, 0, (0, 0)), (2, 0, (0,))))))
        self.assert_not(*rings, Apart(downs, ("ring", ((1, 0, (-1,)), (2, 0, (0,))))))
        self.assert_not(*rings, Apart(downs, ("unlike", 1)))
        self.assert_not(*rings, Apart(downs, ("unlike", 0)))
        self.assert_not(*rings, Apart(downs, ("unlike", 3)))

    def test_a_ring_within_which_no_path_goes_down_bars_nothing(self):
        self.assert_not(0, 0, Apart((), ("ring", ((0, 0, ()),))))
        self.assert_not(0, 1, Apart((), ("ring", ((0, 0, ()), (0, 1, ())))))

    def test_steps_that_are_none(self):
        pair = g(A, f(0)), g(B, f(A))
        self.assertIs(is_unify(*pair, Apart((("down", 0, 0),), ("unlike", 1))), True)
        for step in (("down", 0, 2), ("down", 0, -1), ("down", 1, 0), ("down", -1, 0), ("down", 0),
                     ("down", 0, 0, 0), ("up", 0, 0), ("joined", 0, 0, 0, 0), ("joined", 0, 0),
                     (), ("down",), None, "down", 0, (0, 0, 0)):
            self.assert_not(*pair, Apart((step, ("down", 0, 0)), ("unlike", 2)))
            self.assert_not(*pair, Apart((("down", 0, 0), step), ("unlike", 1)))
        self.assert_not(*pair, Apart((("down", 0, 1),), ("unlike", 1)))

    def test_joined_takes_one_variable_alone(self):
        pair = ("h", 0, 0, 1), ("h", A, B, B)
        downs = (("down", 0, 0), ("down", 0, 1), ("down", 0, 2))
        self.assertIs(is_unify(*pair, Apart(downs + (("joined", 1, 0, 2, 0),), ("unlike", 4))), True)
        for step in (("joined", 1, 0, 3, 0), ("joined", 1, 1, 2, 0), ("joined", 1, 0, 2, 1),
                     ("joined", 1, 1, 2, 1), ("joined", 1, 0, 4, 0), ("joined", 1, 2, 2, 0),
                     ("joined", 1, -1, 2, 0), ("joined", 1, 0, 2), ("joined", 1, 0, 2, 0, 0),
                     ("joined", -3, 0, 2, 0), ("joined", 1, 0, 1, 0)):
            self.assert_not(*pair, Apart(downs + (step,), ("unlike", 4)))

    def test_what_unify_told_bent_at_one_place(self):
        bent = 0
        for one, other, _ in BARRED:
            told = unify(one, other)
            for steps in bendings(told.steps):
                bent += 1
                self.assert_bent(one, other, steps, told.end)
            for end in bendings(told.end):
                bent += 1
                self.assert_bent(one, other, told.steps, end)
        self.assertGreater(bent, 1000)

    def assert_bent(self, one, other, steps, end):
        """What is bent may still be right, but only if the walk by hand takes it."""
        told = is_unify(one, other, Apart(steps, end))
        self.assertIs(told, is_walked_right(one, other, steps, end), (one, other, steps, end))

    def test_unifiers_bent_at_one_place(self):
        bent = 0
        for one, other in JOINED:
            pairs = unify(one, other).pairs
            for value in bendings(pairs):
                told = is_unify(one, other, Unifier(value))
                self.assertIs(told, is_right_unifier(one, other, value), (one, other, value))
                bent += 1
        self.assertGreater(bent, 300)

    def test_the_other_kind_is_never_right(self):
        for one, other in JOINED:
            for one_barred, other_barred, _ in BARRED:
                told = unify(one_barred, other_barred)
                self.assert_not(one, other, told)
            self.assert_not(one, other, unify(one, other).pairs)
            self.assert_not(one, other, Apart(unify(one, other).pairs, ("ring", ())))
        for one, other, _ in BARRED:
            for pairs in ((), ((0, A),), ((0, 1),), ((0, f(0)),)):
                self.assert_not(one, other, Unifier(pairs))

    def test_any_value_makes_no_error(self):
        values = strange_values()
        for one, other in ((0, f(0)), (A, B), (0, 1), (g(0, 1), g(f(1), A))):
            for value in values:
                self.assert_not(one, other, value)
                self.assert_not(one, other, Unifier(((0, value), (1, value))))
                self.assert_not(one, other, Unifier((value, value)))
                self.assert_not(one, other, Apart(value, value))
                self.assert_not(one, other, Apart((value,), ("unlike", 0)))
                self.assert_not(one, other, Apart((), ("ring", value)))
                self.assert_not(one, other, Apart((), ("ring", (value,))))
                for step in (("down", 0, value), ("joined", 0, value, 0, value), (value, 0, 0)):
                    self.assert_not(one, other, Apart((step,), ("unlike", 9)))
                for link in ((value, 0, (1,)), (0, value, (1,)), (0, 0, value), (0, 0, (value, value))):
                    self.assert_not(one, other, Apart((), ("ring", (link,))))

    def test_any_value_at_one_place_of_a_right_ring(self):
        for value in strange_values():
            is_zero = isinstance(value, int) and not isinstance(value, bool) and value == 0
            for link in ((value, 0, (0,)), (0, value, (0,)), (0, 0, (value,))):
                self.assertIs(is_unify(0, f(0), Apart((), ("ring", (link,)))), is_zero)

    def test_nothing_that_is_passed_is_changed(self):
        steps = [("down", 0, 0)]
        pair = (g(A, 0), g(B, 1))
        told = Apart(steps, ("unlike", 1))
        self.assertIs(is_unify(*pair, told), True)
        self.assertEqual(steps, [("down", 0, 0)])
        self.assertEqual(told.steps, (("down", 0, 0),))
        self.assertEqual(pair, (g(A, 0), g(B, 1)))

    def test_values_far_too_great_are_told_wrong_at_once(self):
        wide = 0
        for _ in range(500):
            wide = g(wide, wide)
        for one, other in JOINED + [(0, f(1))]:
            self.assert_not(one, other, Unifier(((0, wide),)))
            self.assert_not(one, other, Unifier(((0, f(wide)), (1, wide))))
        self.assert_not(A, B, Apart((("down", 0, 0),) * 100000, ("unlike", 0)))
        self.assertIs(is_unify(f(A), f(B), Apart((("down", 0, 0),) * 20000, ("unlike", 20000))), True)
        self.assert_not(0, f(0), Apart((), ("ring", ((0, 0, (0,) * 100000),))))
        self.assertIs(is_unify(0, f(0), Apart((), ("ring", ((0, 0, (0,)),) * 1000))), True)


def bendings(value):
    """Values that differ from a value at one place within it."""
    if isinstance(value, tuple):
        for index, part in enumerate(value):
            for other in bendings(part):
                yield value[:index] + (other,) + value[index + 1:]
        for index in range(len(value)):
            yield value[:index] + value[index + 1:]
            yield value[:index + 1] + value[index:]
        yield list(value)
        yield value + (0,)
        yield 0
        yield None
    elif isinstance(value, int):
        for other in (value + 1, value - 1, 100, bool(value), float(value), str(value), ("a",), (), Awkward()):
            yield other
    else:
        for other in (value + "x", "", "a", "f", "down", "joined", "unlike", "ring", 0, None, ("a",), Awkward()):
            if isinstance(other, Awkward) or other != value:
                yield other


def is_plain(value, least=0):
    return isinstance(value, int) and not isinstance(value, bool) and value >= least


def is_walked_right(one, other, steps, end):
    """Whether steps and an end are right, by the document's words alone."""
    if isinstance(steps, list):
        steps = tuple(steps)
    if isinstance(end, list):
        end = tuple(end)
    try:
        if not isinstance(steps, tuple) or not are_plain_rows(steps):
            return False
        equations = walked(one, other, Apart(steps, None))
        word, rest = end
        if not isinstance(end, tuple) or not isinstance(word, str):
            return False
        if word == "unlike":
            left, right = equations[rest] if is_plain(rest) else (0, 0)
            if isinstance(left, int) or isinstance(right, int):
                return False
            return left[0] != right[0] or len(left) != len(right)
        return word == "ring" and is_ring_right(equations, rest)
    except (AssertionError, IndexError, TypeError, ValueError):
        return False


def are_plain_rows(steps):
    for step in steps:
        if not isinstance(step, tuple) or not step or not isinstance(step[0], str):
            return False
        if not all(is_plain(number) for number in step[1:]):
            return False
    return True


def is_ring_right(equations, row):
    if not isinstance(row, tuple) or not row:
        return False
    for link in row:
        if not isinstance(link, tuple) or len(link) != 3 or not isinstance(link[2], tuple):
            return False
        if not all(is_plain(number) for number in link[:2] + link[2]):
            return False
        if not isinstance(equations[link[0]][link[1]], int):
            return False
    starts = [equations[n][p] for n, p, _ in row]
    reached = [at(equations[n][1 - p], path) for n, p, path in row]
    return reached == starts[1:] + starts[:1] and any(path for _, _, path in row)


def is_term(value):
    if isinstance(value, tuple):
        return len(value) > 0 and isinstance(value[0], str) and all(is_term(part) for part in value[1:])
    return is_plain(value)


def is_right_unifier(one, other, pairs):
    """Whether pairs are those of a right unifier, a right one being told."""
    if isinstance(pairs, list):
        pairs = tuple(pairs)
    if not isinstance(pairs, tuple):
        return False
    for pair in pairs:
        if not isinstance(pair, tuple) or len(pair) != 2 or not is_plain(pair[0]) or not is_term(pair[1]):
            return False
    firsts = [pair[0] for pair in pairs]
    if firsts != sorted(set(firsts)) or any(v == t for v, t in pairs):
        return False
    own = set(variables(one) + variables(other))
    if not {v for v, t in pairs for v in [v] + variables(t)} <= own:
        return False
    if filled(one, dict(pairs)) != filled(other, dict(pairs)):
        return False
    right = unify(one, other).pairs
    return behind(pairs, pairs) == pairs and behind(pairs, right) == right


if __name__ == "__main__":
    unittest.main()
