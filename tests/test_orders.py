"""Points [14] and [15]: orders, weights, terms compared."""

import itertools
import unittest

from downtoground.errors import BadRow
from downtoground.orders import Order, compare, weight_of
from downtoground.terms import at, paths_of, put, put_at
from tests.helpers import (all_terms, chain_of, compared, drawer, drawn_term, exchanged, ground_terms,
                           strange_values, weight)

YES = ("yes",)
A, B = ("a",), ("b",)
THINGS = (("a", 0, 1), ("b", 0, 2), ("f", 1, 1), ("g", 2, 1))
TRUTHS = (("p", 1, 2), ("q", 0, 1))
PLAIN = Order(THINGS, TRUTHS)

# Orders with unlike weights and mixed places.
ORDERS = [
    PLAIN,
    Order((("g", 2, 3), ("b", 0, 5), ("f", 1, 2), ("a", 0, 1)), (("q", 0, 4), ("p", 1, 1))),
    Order((("f", 1, 1), ("h", 3, 1), ("a", 0, 1)), (("r", 2, 1), ("q", 0, 1))),
    Order((("a", 0, 4), ("f", 1, 5), ("b", 0, 4)), ()),
    Order((("a", 0, 1), ("b", 0, 1)), (("p", 2, 1), ("q", 0, 2))),
]


def pairs_of(order):
    return [(name, arity) for name, arity, _ in order.things]


def drawn_row(order, draw, variable_count, size_to):
    """A drawn term of the order: mostly a thing, sometimes an atom or yes."""
    thing = drawn_term(draw, pairs_of(order), variable_count, draw.randint(1, size_to))
    choice = draw.random()
    if choice < 0.05:
        return YES
    if choice < 0.25 and order.truths:
        name, arity, _ = draw.choice(order.truths)
        return (name,) + tuple(drawn_term(draw, pairs_of(order), variable_count, draw.randint(1, size_to // 3))
                               for _ in range(arity))
    return thing


class OrderTest(unittest.TestCase):

    def test_attributes(self):
        self.assertEqual(PLAIN.things, THINGS)
        self.assertEqual(PLAIN.truths, TRUTHS)
        self.assertEqual(Order([("a", 0, 1)], []).things, (("a", 0, 1),))
        self.assertEqual(Order([("a", 0, 1)], []).truths, ())

    def test_lists_are_copied_as_tuples(self):
        things, truths = [["a", 0, 1], ["f", 1, 2]], [["p", 1, 1]]
        order = Order(things, truths)
        self.assertEqual(things, [["a", 0, 1], ["f", 1, 2]])
        self.assertEqual(truths, [["p", 1, 1]])
        things[0][2] = 9
        things.append(["b", 0, 1])
        truths[0][0] = "q"
        truths.clear()
        self.assertEqual(order.things, (("a", 0, 1), ("f", 1, 2)))
        self.assertEqual(order.truths, (("p", 1, 1),))
        self.assertIsInstance(order.things[0], tuple)
        self.assertIsInstance(order.truths[0], tuple)
        self.assertEqual(weight_of(order, ("p", ("f", A))), 4)

    def test_any_string_but_yes_is_a_name(self):
        order = Order((("", 0, 1), ("all", 1, 1), ("X", 0, 1), ("two words", 2, 1)), (("\n", 0, 1),))
        self.assertEqual(weight_of(order, ("two words", ("",), ("all", ("X",)))), 4)

    def test_great_numbers(self):
        order = Order((("a", 0, 10 ** 30), ("f", 12, 1)), ())
        self.assertEqual(order.things[1], ("f", 12, 1))
        self.assertEqual(weight_of(order, A), 10 ** 30)

    def wrong_rows(self):
        """Rows that are none of things nor of truths; each is wrong at one place."""
        wrong = [[item] for item in strange_values()]
        wrong += [[("a", 0, 1), item] for item in strange_values()]
        wrong += [[triple, ("a", 0, 1)] for triple in (
            ("b", 0), ("b", 0, 1, 1), ("b", -1, 1), ("b", 0, 0), ("b", 0, -1), ("b", True, 1), ("b", False, 1),
            ("b", 0, True), ("b", 1.0, 1), ("b", 0, 1.0), ("b", "0", 1), ("b", 0, "1"), (b"b", 0, 1),
            (1, 0, 1), (None, 0, 1), (("b",), 0, 1), ("b", None, 1), ("b", 0, None), "b01", {"b": 0},
            ("yes", 0, 1), ("yes", 1, 1), ("a", 0, 1), ("a", 1, 2), ["b", 0, 0])]
        return wrong

    def assert_bad_row(self, things, truths, row):
        with self.assertRaises(BadRow) as held:
            Order(things, truths)
        self.assertIs(held.exception.row, row)

    def test_things_that_are_none(self):
        for row in self.wrong_rows() + [value for value in strange_values()]:
            self.assert_bad_row(row, [], row)
            if isinstance(row, list):
                whole = tuple(row)
                self.assert_bad_row(whole, [], whole)

    def test_things_without_a_constant(self):
        for row in ([], (), [("f", 1, 1)], [("f", 1, 1), ("g", 2, 1)]):
            self.assert_bad_row(row, [], row)
        self.assertEqual(Order([("f", 1, 1), ("a", 0, 1)], []).things, (("f", 1, 1), ("a", 0, 1)))

    def test_truths_that_are_none(self):
        things = [("c", 0, 1)]
        for row in self.wrong_rows():
            self.assert_bad_row(things, row, row)
        for value in strange_values():
            if not isinstance(value, (list, tuple)) or len(value) > 0:
                self.assert_bad_row(things, value, value)

    def test_truths_with_a_name_of_things(self):
        for row in ([("a", 0, 1)], [("p", 0, 1), ("a", 3, 2)], (("f", 1, 1),)):
            self.assert_bad_row([("a", 0, 1), ("f", 1, 1)], row, row)

    def test_things_go_ahead_of_truths(self):
        for things in ([], [("a", 0, 0)], None, [("f", 1, 1)]):
            for truths in ([("p", 0, 0)], None, [("yes", 0, 1)], [("a", 0, 1)]):
                self.assert_bad_row(things, truths, things)

    def test_truths_need_no_constant(self):
        self.assertEqual(Order([("a", 0, 1)], [("p", 1, 1)]).truths, (("p", 1, 1),))

    def test_an_order_is_equal_to_itself_alone(self):
        one = Order(THINGS, TRUTHS)
        self.assertEqual(one, one)
        self.assertNotEqual(one, Order(THINGS, TRUTHS))


class WeightTest(unittest.TestCase):

    def test_by_hand(self):
        self.assertEqual(weight_of(PLAIN, 0), 1)
        self.assertEqual(weight_of(PLAIN, YES), 1)
        self.assertEqual(weight_of(PLAIN, A), 1)
        self.assertEqual(weight_of(PLAIN, B), 2)
        self.assertEqual(weight_of(PLAIN, ("f", B)), 3)
        self.assertEqual(weight_of(PLAIN, ("g", 0, ("f", 0))), 4)
        self.assertEqual(weight_of(PLAIN, ("p", ("g", B, 3))), 6)
        self.assertEqual(weight_of(ORDERS[1], ("g", B, ("f", 7))), 11)

    def test_drawn_terms(self):
        draw = drawer(21)
        for order in ORDERS:
            for _ in range(100):
                term = drawn_row(order, draw, 4, 60)
                self.assertEqual(weight_of(order, term), weight(order, term))


class CompareTest(unittest.TestCase):

    def test_by_hand(self):
        for one, other, way in [
                (A, A, "alike"), (0, 0, "alike"), (YES, YES, "alike"), (0, 1, None), (0, A, None),
                (A, YES, "above"), (YES, ("q",), "below"), (0, YES, None), (B, A, "above"),
                (("f", A), B, "above"), (("f", 0), 0, "above"), (0, ("f", 0), "below"), (("f", 0), 1, None),
                (("f", 0), A, "above"), (("f", 0), B, "above"), (B, ("f", 0), "below"),
                (("g", 0, 1), ("g", 1, 0), None), (("g", 0, 0), ("g", 0, 1), None),
                (("g", 0, 1), 0, "above"), (("g", 0, 0), ("f", 0), "above"), (("g", 0, 1), ("f", ("f", 0)), "above"),
                (("g", A, 0), ("g", 0, A), None), (("g", B, 0), ("g", A, 0), "above"),
                (("g", A, ("f", 0)), ("g", ("f", 0), A), "below"), (("g", ("f", 0), 1), ("g", 0, ("f", 1)), "above"),
                (("g", A, B), ("g", B, A), "below"), (("p", 0), ("f", 0), "above"), (("p", A), ("p", B), "below"),
                (("q",), A, "above"), (("q",), B, "below"), (("p", 0), ("p", 1), None),
                (("f", ("f", 0)), ("g", 0, 0), "below"), (("f", ("f", 0)), ("g", 1, 1), None),
                (("f", ("f", A)), ("g", A, A), "below")]:
            self.assertEqual(compare(PLAIN, one, other), way, (one, other))
            self.assertEqual(compare(PLAIN, other, one), exchanged(way), (other, one))

    def test_weights_go_ahead_of_places_and_these_ahead_of_arguments(self):
        order = ORDERS[1]
        self.assertEqual(compare(order, B, ("f", A)), "above")
        self.assertEqual(compare(order, A, ("q",)), "below")
        self.assertEqual(compare(order, ("g", A, A), B), "below")
        self.assertEqual(compare(order, ("f", ("f", A)), ("g", A, A)), "above")
        self.assertEqual(compare(order, ("f", ("g", A, A)), ("g", ("f", A), A)), "above")

    def test_drawn_terms_against_the_plain_words(self):
        draw = drawer(22)
        counted = {"above": 0, "below": 0, "alike": 0, None: 0}
        for order in ORDERS:
            for _ in range(1500):
                one = drawn_row(order, draw, 3, 14)
                other = drawn_row(order, draw, 3, 14)
                if draw.random() < 0.5:
                    other = changed(draw, order, one)
                told = compare(order, one, other)
                counted[told] += 1
                self.assertEqual(told, compared(order, one, other), (order.things, one, other))
                self.assertEqual(compare(order, other, one), exchanged(told))
        self.assertGreater(min(counted.values()), 100)

    def test_of_ground_terms_just_one_is_told(self):
        for order in ORDERS:
            terms = ground_terms(order, 6)[:60]
            for (low, one), (high, other) in itertools.product(enumerate(terms), repeat=2):
                way = "alike" if low == high else "above" if low > high else "below"
                self.assertEqual(compare(order, one, other), way)

    def test_above_stays_so_under_substitutions(self):
        draw = drawer(23)
        for order in ORDERS:
            fillings = [tuple((v, drawn_term(draw, pairs_of(order), 3, draw.randint(1, 6))) for v in (0, 1, 2))
                        for _ in range(8)]
            fillings = [tuple(pair for pair in row if pair[0] != pair[1]) for row in fillings]
            for _ in range(300):
                one = drawn_term(draw, pairs_of(order), 3, draw.randint(1, 8))
                other = drawn_term(draw, pairs_of(order), 3, draw.randint(1, 8))
                if compare(order, one, other) == "above":
                    for pairs in fillings:
                        self.assertEqual(compare(order, put(one, pairs), put(other, pairs)), "above")

    def test_above_stays_so_under_surroundings(self):
        draw = drawer(24)
        for order in ORDERS:
            for _ in range(300):
                one = drawn_term(draw, pairs_of(order), 2, draw.randint(1, 6))
                other = drawn_term(draw, pairs_of(order), 2, draw.randint(1, 6))
                around = drawn_row(order, draw, 2, 9)
                way = compare(order, one, other)
                if way is not None:
                    for path in paths_of(around):
                        inside = compare(order, put_at(around, path, one), put_at(around, path, other))
                        self.assertEqual(inside, way)

    def test_each_term_is_above_what_stands_within(self):
        draw = drawer(25)
        for order in ORDERS:
            for _ in range(60):
                term = drawn_row(order, draw, 3, 20)
                for path in paths_of(term)[1:]:
                    self.assertEqual(compare(order, term, at(term, path)), "above")
                    self.assertEqual(compare(order, at(term, path), term), "below")

    def test_small_terms_in_all_pairs(self):
        order = Order((("a", 0, 1), ("f", 1, 1), ("g", 2, 1)), ())
        terms = all_terms(pairs_of(order), (0, 1), 1) + [("f", ("f", 0)), ("g", ("f", 0), 1), ("g", 0, ("f", 1))]
        for one, other in itertools.product(terms, repeat=2):
            self.assertEqual(compare(order, one, other), compared(order, one, other))

    def test_the_greatest_sizes_told(self):
        order = Order((("a", 0, 5), ("f", 1, 5), ("g", 2, 5)), ())
        self.assertEqual(compare(order, chain_of("f", 59, 0), chain_of("f", 58, 0)), "above")
        self.assertEqual(compare(order, chain_of("f", 59, 0), chain_of("f", 59, 1)), None)
        self.assertEqual(compare(order, chain_of("f", 59, A), chain_of("f", 59, A)), "alike")
        self.assertEqual(compare(order, chain_of("f", 57, ("g", A, 0)), chain_of("f", 57, ("g", 0, A))), None)
        self.assertEqual(compare(order, chain_of("f", 57, ("g", A, 0)), chain_of("f", 58, 0)), "above")
        self.assertEqual(weight_of(order, chain_of("f", 59, A)), 300)


def changed(draw, order, term):
    """A term with a few of its parts drawn anew, so that much stays alike."""
    for _ in range(draw.randint(1, 2)):
        within = [path for path in paths_of(term) if path]
        if within:
            new = drawn_term(draw, pairs_of(order), 3, draw.randint(1, 4))
            term = put_at(term, draw.choice(within), new)
    return term


if __name__ == "__main__":
    unittest.main()
