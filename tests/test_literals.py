"""Point [17]: literals and clauses compared."""

import itertools
import unittest

from downtoground.orders import (Order, alone_greatest_at, compare_clauses, compare_literals, greatest_at)
from tests.helpers import (compared_clauses, compared_literals, drawer, drawn_term, exchanged, ground_terms)

YES = ("yes",)
A, B = ("a",), ("b",)
ORDER = Order((("a", 0, 1), ("b", 0, 2), ("f", 1, 1), ("g", 2, 1)), (("p", 1, 2), ("q", 0, 1)))
NAMES = [(name, arity) for name, arity, _ in ORDER.things]


def drawn_literal(draw, variable_count, size_to):
    sign = draw.random() < 0.5
    choice = draw.random()
    if choice < 0.2:
        sides = [draw.choice([("q",), YES, ("p", drawn_term(draw, NAMES, variable_count, 2))]), YES]
    else:
        sides = [drawn_term(draw, NAMES, variable_count, draw.randint(1, size_to)) for _ in range(2)]
    draw.shuffle(sides)
    return (sign, sides[0], sides[1])


def drawn_clause(draw, variable_count, size_to, most):
    return tuple(drawn_literal(draw, variable_count, size_to) for _ in range(draw.randint(0, most)))


def turned(clause):
    """A clause with the sides of its literals exchanged, and the literals the other way about."""
    return tuple((sign, right, left) for sign, left, right in reversed(clause))


class LiteralsTest(unittest.TestCase):

    def test_by_hand(self):
        for one, other, way in [
                ((True, A, B), (True, B, A), "alike"), ((False, A, B), (False, B, A), "alike"),
                ((True, A, B), (False, A, B), "below"), ((True, A, A), (False, A, A), "below"),
                ((False, A, A), (True, B, A), "below"), ((True, B, A), (True, B, B), "below"),
                ((True, B, B), (False, B, A), "below"), ((False, A, A), (True, B, B), "below"),
                ((True, 0, 1), (True, 1, 0), "alike"), ((True, 0, 1), (True, 0, 2), None),
                ((True, 0, 1), (False, 0, 2), None), ((True, 0, 0), (True, 0, 1), None),
                ((True, ("f", 0), 0), (True, ("f", 0), 1), None), ((True, ("g", 0, 1), 0), (True, 1, 0), "above"),
                ((True, ("f", 0), 0), (True, ("f", ("f", 0)), 0), "below"),
                ((True, ("p", A), YES), (False, ("p", A), YES), "below"),
                ((True, ("p", A), YES), (True, ("q",), YES), "above"),
                ((True, YES, YES), (True, A, A), "below"), ((True, 0, 0), (False, 0, 0), "below"),
                ((False, 0, 1), (True, 0, 1), "above"), ((True, ("f", 0), 1), (True, ("f", 1), 0), None)]:
            self.assertEqual(compare_literals(ORDER, one, other), way, (one, other))
            self.assertEqual(compare_literals(ORDER, other, one), exchanged(way), (other, one))

    def test_what_stands_in_both_is_struck_out_as_often_as_in_both(self):
        # Of a a b b and a b, struck out as sets, nothing would be left.
        self.assertEqual(compare_literals(ORDER, (False, A, B), (True, A, B)), "above")
        self.assertEqual(compare_literals(ORDER, (False, 0, 1), (True, 1, 0)), "above")
        self.assertEqual(compare_literals(ORDER, (True, 0, 0), (True, 0, 1)), None)
        self.assertEqual(compare_literals(ORDER, (True, ("f", 0), 1), (True, 1, ("f", ("f", 0)))), "below")

    def test_drawn_literals(self):
        draw = drawer(31)
        counted = {"above": 0, "below": 0, "alike": 0, None: 0}
        for _ in range(4000):
            one = drawn_literal(draw, 2, 4)
            other = draw.choice([drawn_literal(draw, 2, 4), (draw.random() < 0.5, one[2], one[1]),
                                 (one[0], one[1], drawn_literal(draw, 2, 4)[1])])
            told = compare_literals(ORDER, one, other)
            counted[told] += 1
            self.assertEqual(told, compared_literals(ORDER, one, other), (one, other))
            self.assertEqual(compare_literals(ORDER, other, one), exchanged(told))
            self.assertEqual(compare_literals(ORDER, one, (other[0], other[2], other[1])), told)
        self.assertGreater(min(counted.values()), 100)

    def test_of_ground_literals_just_one_is_told(self):
        terms = ground_terms(ORDER, 3)
        literals = [(sign, s, t) for sign in (True, False) for s in terms for t in terms]
        for one, other in itertools.product(literals, literals[::7]):
            told = compare_literals(ORDER, one, other)
            self.assertIn(told, ("above", "below", "alike"))
            alike = one[0] == other[0] and sorted(one[1:]) == sorted(other[1:])
            self.assertEqual(told == "alike", alike)


class ClausesTest(unittest.TestCase):

    def test_by_hand(self):
        one, other, third = (True, A, B), (False, A, B), (True, ("p", A), YES)
        for left, right, way in [
                ((), (), "alike"), ((one,), (), "above"), ((one,), (one,), "alike"),
                ((one, other), (other, one), "alike"), ((one, one), (one,), "above"),
                ((one, one), (one, one), "alike"), ((one, one), (other,), "below"),
                ((one, third), (one, other), "above"), ((third,), (one, other, one), "above"),
                ((one, other), ((False, B, A), (True, B, A)), "alike"),
                (((True, 0, 1),), ((True, 1, 0),), "alike"), (((True, 0, 1),), ((True, 1, 2),), None),
                (((True, 0, 1), one), ((True, 1, 2), one), None),
                (((True, 0, 1), (True, 0, 1)), ((True, 0, 1), (False, 1, 0)), "below")]:
            self.assertEqual(compare_clauses(ORDER, left, right), way, (left, right))
            self.assertEqual(compare_clauses(ORDER, right, left), exchanged(way), (right, left))

    def test_drawn_clauses(self):
        draw = drawer(32)
        counted = {"above": 0, "below": 0, "alike": 0, None: 0}
        for _ in range(1200):
            one = drawn_clause(draw, 2, 3, 4)
            other = draw.choice([drawn_clause(draw, 2, 3, 4), turned(one), turned(one) + drawn_clause(draw, 2, 3, 1),
                                 turned(one)[1:] + drawn_clause(draw, 2, 3, 1)])
            told = compare_clauses(ORDER, one, other)
            counted[told] += 1
            self.assertEqual(told, compared_clauses(ORDER, one, other), (one, other))
            self.assertEqual(compare_clauses(ORDER, other, one), exchanged(told))
            self.assertEqual(compare_clauses(ORDER, turned(one), turned(other)), told)
        self.assertGreater(min(counted.values()), 60)

    def test_a_literal_more_and_a_literal_twice(self):
        draw = drawer(33)
        for _ in range(200):
            clause = drawn_clause(draw, 3, 5, 5)
            literal = drawn_literal(draw, 3, 5)
            self.assertEqual(compare_clauses(ORDER, clause + (literal,), clause), "above")
            self.assertEqual(compare_clauses(ORDER, turned(clause), (literal,) + clause), "below")
            self.assertEqual(compare_clauses(ORDER, clause + (literal, literal), clause + (literal,)), "above")
            self.assertEqual(compare_clauses(ORDER, turned(clause), clause), "alike")

    def test_of_ground_clauses_just_one_is_told(self):
        draw = drawer(34)
        clauses = [drawn_clause(draw, 0, 3, 3) for _ in range(50)]
        for one, other in itertools.product(clauses, repeat=2):
            self.assertIn(compare_clauses(ORDER, one, other), ("above", "below", "alike"))


class GreatestTest(unittest.TestCase):

    def test_by_hand(self):
        low, high = (True, A, B), (False, A, B)
        self.assertIs(greatest_at(ORDER, (low, high), 0), False)
        self.assertIs(greatest_at(ORDER, (low, high), 1), True)
        self.assertIs(alone_greatest_at(ORDER, (low, high), 0), False)
        self.assertIs(alone_greatest_at(ORDER, (low, high), 1), True)
        self.assertIs(greatest_at(ORDER, (low,), 0), True)
        self.assertIs(alone_greatest_at(ORDER, (low,), 0), True)

    def test_a_literal_twice_is_greatest_and_not_alone(self):
        low, high = (True, A, B), (False, A, B)
        clause = (high, low, (False, B, A))
        self.assertEqual([greatest_at(ORDER, clause, index) for index in (0, 1, 2)], [True, False, True])
        self.assertEqual([alone_greatest_at(ORDER, clause, index) for index in (0, 1, 2)], [False] * 3)

    def test_literals_of_which_none_is_told_are_all_greatest(self):
        clause = ((True, 0, 1), (True, 1, 2), (False, 0, 2))
        for index in (0, 1, 2):
            self.assertIs(greatest_at(ORDER, clause, index), True)
            self.assertIs(alone_greatest_at(ORDER, clause, index), True)
        clause = ((True, 0, 1), (False, 0, 1))
        self.assertIs(greatest_at(ORDER, clause, 0), False)

    def test_drawn_clauses(self):
        draw = drawer(35)
        for _ in range(400):
            clause = drawn_clause(draw, 2, 3, 6)
            for index, literal in enumerate(clause):
                ways = [compared_literals(ORDER, other, literal)
                        for place, other in enumerate(clause) if place != index]
                self.assertIs(greatest_at(ORDER, clause, index), "above" not in ways)
                alone = "above" not in ways and "alike" not in ways
                self.assertIs(alone_greatest_at(ORDER, clause, index), alone)


if __name__ == "__main__":
    unittest.main()
