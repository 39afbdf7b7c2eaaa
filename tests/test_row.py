"""Point [16]: the one row of all ground terms."""

import itertools
import unittest

from downtoground.errors import BadNumber
from downtoground.orders import Order, below, compare, count_of, place_of, term_at, things_to, weight_of
from tests.helpers import chain_of, ground_terms, strange_values

YES = ("yes",)
A, B, C = ("a",), ("b",), ("c",)

# An order, and the greatest weight to which its ground terms are listed by hand.
ENDLESS = [
    (Order((("a", 0, 1), ("b", 0, 2), ("f", 1, 1), ("g", 2, 1)), (("p", 1, 2), ("q", 0, 1))), 7),
    (Order((("g", 2, 3), ("b", 0, 5), ("f", 1, 2), ("a", 0, 1)), (("q", 0, 4), ("p", 1, 1))), 12),
    (Order((("f", 1, 1), ("h", 3, 1), ("a", 0, 1)), (("r", 2, 1), ("q", 0, 1))), 8),
    (Order((("a", 0, 4), ("f", 1, 5), ("b", 0, 4)), ()), 30),
    (Order((("h", 3, 2), ("a", 0, 1), ("b", 0, 1)), (("r", 3, 5), ("p", 1, 1))), 9),
    (Order((("f", 1, 1), ("a", 0, 1)), (("s", 3, 2),)), 11),
]
CONSTANTS = Order((("a", 0, 2), ("b", 0, 1), ("c", 0, 2)), (("p", 1, 1), ("r", 2, 3), ("q", 0, 2)))
ALONE = Order((("a", 0, 1),), ())


class ListedTest(unittest.TestCase):

    def test_a_row_by_hand(self):
        order = ENDLESS[0][0]
        row = (YES, A, ("q",), B, ("f", A), ("f", B), ("f", ("f", A)), ("g", A, A), ("p", A))
        self.assertEqual(below(order, ("f", ("f", B))), row)
        self.assertEqual([count_of(order, weight) for weight in range(4)], [0, 3, 2, 4])
        for place, term in enumerate(row):
            self.assertEqual(place_of(order, term), place)
            self.assertEqual(term_at(order, place), term)
            self.assertEqual(below(order, term), row[:place])
        self.assertEqual(things_to(order, ("p", A)), (A, B, ("f", A), ("f", B), ("f", ("f", A)), ("g", A, A)))
        self.assertEqual(things_to(order, ("g", A, A)), (A, B, ("f", A), ("f", B), ("f", ("f", A)), ("g", A, A)))
        self.assertEqual(things_to(order, ("q",)), (A,))
        self.assertEqual(things_to(order, A), (A,))
        self.assertEqual(things_to(order, YES), ())

    def test_count_of(self):
        for order, most in ENDLESS + [(CONSTANTS, 9), (ALONE, 3)]:
            weights = [weight_of(order, term) for term in ground_terms(order, most)]
            for weight in range(most + 1):
                self.assertEqual(count_of(order, weight), weights.count(weight))

    def test_place_of_and_term_at(self):
        for order, most in ENDLESS + [(CONSTANTS, 9), (ALONE, 3)]:
            terms = ground_terms(order, most)
            self.assertGreater(len(terms), 1)
            for place, term in enumerate(terms):
                self.assertEqual(place_of(order, term), place)
                self.assertEqual(term_at(order, place), term)

    def test_below_and_things_to(self):
        for order, most in ENDLESS + [(CONSTANTS, 9), (ALONE, 3)]:
            terms = tuple(ground_terms(order, most)[:160])
            names = [name for name, _, _ in order.things]
            for place, term in enumerate(terms):
                self.assertEqual(below(order, term), terms[:place])
                things = tuple(part for part in terms[:place + 1] if part[0] in names)
                self.assertEqual(things_to(order, term), things)

    def test_the_row_ascends(self):
        for order, most in ENDLESS:
            terms = [term_at(order, place) for place in range(80)]
            for (low, one), (high, other) in itertools.combinations(list(enumerate(terms)), 2):
                self.assertEqual(compare(order, one, other), "below")
                self.assertEqual(compare(order, other, one), "above")


class EndTest(unittest.TestCase):

    def test_constants_alone_come_to_an_end(self):
        terms = ground_terms(CONSTANTS, 30)
        self.assertEqual(len(terms), 1 + 3 + 3 + 9 + 1)
        self.assertEqual(term_at(CONSTANTS, 16), ("r", C, C))
        for place in (17, 18, 1000, 10 ** 40):
            self.assert_bad_number(CONSTANTS, place)
        self.assertEqual(term_at(ALONE, 1), A)
        self.assert_bad_number(ALONE, 2)
        self.assertEqual(count_of(CONSTANTS, 8), 0)
        self.assertEqual(count_of(CONSTANTS, 200), 0)

    def test_truths_of_a_gap_behind(self):
        order = Order((("a", 0, 1),), (("p", 3, 5), ("q", 0, 40)))
        self.assertEqual([term_at(order, place) for place in range(4)], [YES, A, ("p", A, A, A), ("q",)])
        self.assert_bad_number(order, 4)
        self.assertEqual(below(order, ("q",)), (YES, A, ("p", A, A, A)))

    def test_the_last_term_may_be_far_heavier_than_the_names(self):
        order = Order((("a", 0, 5), ("b", 0, 1)), (("r", 3, 1),))
        self.assertEqual(term_at(order, 10), ("r", A, A, A))
        self.assert_bad_number(order, 11)

    def assert_bad_number(self, order, place):
        with self.assertRaises(BadNumber) as held:
            term_at(order, place)
        self.assertEqual(held.exception.what, "place")
        self.assertIs(held.exception.number, place)

    def test_values_that_are_no_places(self):
        for value in strange_values() + [-1, -10 ** 20, 1.0, "1", (1,), [1]]:
            if isinstance(value, int) and not isinstance(value, bool) and value >= 0:
                continue
            self.assert_bad_number(ENDLESS[0][0], value)
            self.assert_bad_number(CONSTANTS, value)

    def test_an_argument_that_cannot_be_small(self):
        order = Order((("a", 0, 5), ("f", 1, 5)), ())
        self.assertEqual([term_at(order, place) for place in range(4)], [YES, A, ("f", A), ("f", ("f", A))])
        self.assertEqual([count_of(order, weight) for weight in range(11)], [0, 1, 0, 0, 0, 1, 0, 0, 0, 0, 1])


class SizesTest(unittest.TestCase):

    def test_count_of_the_greatest_weight(self):
        things = (("a", 0, 1), ("b", 0, 3), ("f", 1, 1), ("g", 2, 2), ("h", 3, 1))
        order = Order(things, (("p", 1, 5), ("r", 3, 4), ("q", 0, 2)))
        self.assertGreater(count_of(order, 200), 10 ** 90)
        row = Order((("a", 0, 1), ("f", 1, 1)), ())
        self.assertEqual([count_of(row, weight) for weight in (0, 1, 2, 199, 200)], [0, 2, 1, 1, 1])
        # As many as binary trees with so many forks: the numbers of Catalan.
        trees = Order((("a", 0, 1), ("g", 2, 1)), ())
        count = 1
        for forks in range(1, 100):
            count = count * (4 * forks - 2) // (forks + 1)
            if forks > 1:
                self.assertEqual(count_of(trees, 2 * forks + 1), count)
                self.assertEqual(count_of(trees, 2 * forks), 0)

    def test_far_places_there_and_back(self):
        for order, _ in ENDLESS:
            if max(arity for _, arity, _ in order.things) < 2:
                continue
            for place in (10 ** 6, 10 ** 6 + 1, 10 ** 12 + 7, 10 ** 25, 3 ** 60):
                term = term_at(order, place)
                self.assertEqual(place_of(order, term), place)
                self.assertEqual(compare(order, term_at(order, place + 1), term), "above")

    def test_neighbours_at_the_greatest_weight(self):
        things = (("a", 0, 1), ("b", 0, 3), ("f", 1, 1), ("g", 2, 2), ("h", 3, 1))
        order = Order(things, (("p", 1, 5), ("r", 3, 4), ("q", 0, 2)))
        lower = sum(count_of(order, weight) for weight in range(200))
        whole = count_of(order, 200)
        for place in (lower, lower + 1, lower + whole // 3, lower + whole // 2, lower + whole - 1):
            term = term_at(order, place)
            self.assertEqual(weight_of(order, term), 200)
            self.assertEqual(place_of(order, term), place)
        self.assertEqual(weight_of(order, term_at(order, lower - 1)), 199)
        self.assertEqual(weight_of(order, term_at(order, lower + whole)), 201)

    def test_a_term_as_deep_as_its_weight(self):
        order = Order((("a", 0, 1), ("f", 1, 1)), (("p", 1, 1),))
        term = chain_of("f", 199, A)
        self.assertEqual(weight_of(order, term), 200)
        place = place_of(order, term)
        self.assertEqual(place, 2 + 2 * 198)
        self.assertEqual(term_at(order, place), term)
        self.assertEqual(len(below(order, term)), place)
        self.assertEqual(things_to(order, term)[-1], term)
        self.assertEqual(compare(order, term, ("p", term[1])), "below")

    def test_a_term_as_deep_as_its_place(self):
        # Terms as deep as these cannot be compared by ==, so their numbers are.
        order = Order((("a", 0, 1), ("f", 1, 1)), ())
        term = term_at(order, 3000)
        self.assertEqual(weight_of(order, term), 3000)
        self.assertEqual(place_of(order, term), 3000)
        row = below(order, term)
        self.assertEqual(len(row), 3000)
        self.assertEqual([place_of(order, part) for part in row[::250]], list(range(0, 3000, 250)))
        self.assertEqual(len(things_to(order, term)), 3000)

    def test_below_with_as_many_as_are_told(self):
        for order, _ in ENDLESS:
            if max(arity for _, arity, _ in order.things) < 2:
                continue
            row = below(order, term_at(order, 3000))
            self.assertEqual(len(row), 3000)
            for place in (0, 1, 2, 77, 1234, 2998, 2999):
                self.assertEqual(row[place], term_at(order, place))
            self.assertEqual(below(order, term_at(order, 2999)), row[:2999])
            names = [name for name, _, _ in order.things]
            self.assertEqual(things_to(order, row[2900]), tuple(t for t in row[:2901] if t[0] in names))

    def test_below_in_an_order_of_eight_names(self):
        things = (("a", 0, 1), ("b", 0, 1), ("c", 0, 1), ("d", 0, 1), ("g", 2, 1), ("h", 3, 1))
        order = Order(things, (("r", 3, 1), ("p", 2, 1)))
        row = below(order, term_at(order, 3000))
        self.assertEqual(len(row), 3000)
        self.assertEqual([term_at(order, place) for place in range(2980, 3000)], list(row[2980:]))


if __name__ == "__main__":
    unittest.main()
