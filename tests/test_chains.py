"""Points [21] to [24]: chains, joined equations, and what they lead together."""

import unittest

from downtoground.orders import Order
from downtoground.rules import Chained, Joined, Parted, are_rules, chain_end, is_led, joined, led_together, normal
from tests.helpers import chain_of, drawer, drawn_term, is_above, strange_values
from tests.reckoning import YES, are_led, chain_led, falling_and_lean, parts, with_part
from tests.test_rules import A, B, C, ORDER, OTHERS, THINGS, drawn_equations, f, g


def drawn_chain(draw, equations, term, most):
    """A chain from a term, drawn step by step, and where it ends."""
    chain = ()
    for _ in range(draw.randint(0, most)):
        ways = [(path, index, way) for path, part in parts(term) for index, equation in enumerate(equations)
                for way in (True, False) if part == equation[0 if way else 1]]
        if not ways or sum(1 for _ in parts(term)) > 30:
            break
        path, index, way = draw.choice(ways)
        term = with_part(term, path, equations[index][1 if way else 0])
        chain += ((path, index, way),)
    return chain, term


def is_empty(value):
    return isinstance(value, tuple) and len(value) == 0


class ChainTest(unittest.TestCase):

    def test_by_hand(self):
        equations = ((A, B), (f(B), C), (("p", A), YES))
        for start, chain, end in (
                (A, (), A), (A, (((), 0, True),), B), (B, (((), 0, False),), A), (A, (((), 0, False),), None),
                (f(A), (((0,), 0, True), ((), 1, True)), C), (C, (((), 1, False), ((0,), 0, False)), f(A)),
                (f(A), (((), 0, True),), None), (g(A, A), (((1,), 0, True), ((0,), 0, True)), g(B, B)),
                (("p", B), (((0,), 0, False), ((), 2, True)), YES), (YES, (((), 2, False),), ("p", A)),
                (g(A, f(f(A))), (((1, 0, 0), 0, True), ((1, 0), 1, True)), g(A, f(C)))):
            self.assertEqual(chain_end(equations, start, chain), end)
            self.assertEqual(chain_end(list(equations), start, chain), end)

    def test_values_that_are_none(self):
        equations = ((A, B), (f(B), C))
        wrong = [
            (((), 2, True),), (((), -1, True),), (((), False, True),), (((), 0, 1),), (((), 1, 0),), (((), 0, None),),
            (([], 0, True),), ([(), 0, True],), [((), 0, True)], (((0,), 0, True),), (((), 0),), (((), 0, True, True),),
            (((True,), 0, True),), (((-1,), 0, True),), ((0, 0, True),), ((None, 0, True),), (((), "0", True),),
            (((), 0.0, True),), (((), 0, "True"),), ((),), (None,), (((), 0, True), None), (((0, 0), 0, True),),
        ]
        for chain in wrong:
            self.assertIsNone(chain_end(equations, A, chain))
        self.assertIsNone(chain_end(equations, f(A), (((False,), 0, True),)))
        self.assertIsNone(chain_end(equations, f(A), (([0], 0, True),)))
        self.assertIsNone(chain_end(equations, f(A), (((0.0,), 0, True),)))
        for value in strange_values():
            is_zero = isinstance(value, int) and not isinstance(value, bool) and value == 0
            self.assertIsNone(chain_end(equations, A, (value,)))
            if not is_empty(value):
                self.assertIsNone(chain_end(equations, A, value))
                self.assertIsNone(chain_end(equations, A, ((value, 0, True),)))
            if not is_zero:
                self.assertIsNone(chain_end(equations, A, (((), value, True),)))
                self.assertIsNone(chain_end(equations, f(A), (((value,), 0, True),)))
            if value is not True:
                self.assertIsNone(chain_end(equations, A, (((), 0, value),)))

    def test_drawn_chains_and_such_with_one_thing_changed(self):
        draw = drawer(23)
        for _ in range(300):
            equations = drawn_equations(draw, 6)
            chain, end = drawn_chain(draw, equations, draw.choice(THINGS + OTHERS), 8)
            start = chain_led(equations, end, [(path, index, not way) for path, index, way in chain[::-1]])
            self.assertEqual(chain_end(equations, start, chain), end)
            if not chain:
                continue
            number = draw.randrange(len(chain))
            path, index, way = chain[number]
            triple = draw.choice(((path + (0,), index, way), (path[:-1], index, way), (path, index, not way),
                                  (path, draw.randint(-1, len(equations)), way), (path, index, int(way))))
            changed = chain[:number] + (triple,) + chain[number + 1:]
            try:
                expected = chain_led(equations, start, changed)
                if not isinstance(triple[2], bool) or triple[1] < 0:
                    expected = None
            except (AssertionError, KeyError, IndexError):
                expected = None
            self.assertEqual(chain_end(equations, start, changed), expected)

    def test_long_chains(self):
        chain = tuple(((0,) * index, 0, True) for index in range(3000))
        self.assertEqual(parts_in_row(chain_end(((A, f(A)),), A, chain)), 3001)


def parts_in_row(term):
    many = 1
    while len(term) > 1:
        term = term[1]
        many += 1
    return many


class JoinedTest(unittest.TestCase):

    def assert_joined(self, order, equations):
        told = joined(order, equations)
        self.assertIsInstance(told, Joined)
        self.assertIsInstance(told.rules, tuple)
        self.assertIsInstance(told.chains, tuple)
        self.assertIs(are_rules(order, told.rules), True)
        self.assertTrue(falling_and_lean(order, told.rules))
        for left, right in told.rules:
            self.assertEqual(normal(told.rules, right), right)
        for one, other in equations:
            self.assertEqual(normal(told.rules, one), normal(told.rules, other))
        self.assertEqual(len(told.chains), len(told.rules))
        for (left, right), chain in zip(told.rules, told.chains):
            self.assertIsInstance(chain, tuple)
            self.assertEqual(chain_led(equations, left, chain), right)
            self.assertEqual(chain_end(equations, left, chain), right)
        return told

    def test_by_hand(self):
        for equations, rules in (
                ((), ()), (((A, A),), ()), (((A, B),), ((B, A),)), (((A, B), (B, C)), ((C, A), (B, A))),
                (((chain_of("f", 3, A), A), (chain_of("f", 5, A), A)), ((f(A), A),)),
                (((f(B), C), (B, A)), ((B, A), (f(A), C))), (((g(A, C), B), (C, A)), ((C, A), (g(A, A), B))),
                (((("p", A), YES), (("p", C), ("q",))), ((("p", A), YES), (("p", C), ("q",)))),
                (((YES, ("q",)), (("p", A), ("q",))), ((("q",), YES), (("p", A), YES)))):
            self.assertEqual(self.assert_joined(ORDER, equations).rules, rules)
            self.assertEqual(joined(ORDER, list(equations)).rules, rules)

    def test_drawn_equations_in_several_orders(self):
        draw = drawer(24)
        for _ in range(250):
            equations = drawn_equations(draw, 8)
            told = self.assert_joined(ORDER, equations)
            for _ in range(3):
                row = [equation if draw.random() < 0.5 else equation[::-1] for equation in equations]
                row += [draw.choice(row) for _ in range(draw.randint(0, 3)) if row]
                draw.shuffle(row)
                self.assertEqual(self.assert_joined(ORDER, row).rules, told.rules)

    def test_rules_ascend(self):
        draw = drawer(25)
        for _ in range(100):
            lefts = [left for left, _ in joined(ORDER, drawn_equations(draw, 8)).rules]
            for low, high in zip(lefts, lefts[1:]):
                self.assertTrue(is_above(ORDER, high, low))

    def test_one_normal_form_just_where_equations_lead(self):
        draw = drawer(26)
        counted = [0, 0]
        for _ in range(150):
            equations = drawn_equations(draw, 6)
            rules = joined(ORDER, equations).rules
            for _ in range(20):
                row = draw.choice((THINGS[:8], THINGS[:20], OTHERS[:8]))
                one, other = draw.choice(row), draw.choice(row)
                expected = are_led(equations, one, other)
                counted[expected] += 1
                self.assertEqual(normal(rules, one) == normal(rules, other), expected)
        self.assertGreater(min(counted), 100)

    def test_the_greatest_sizes_told(self):
        names = [("n" + str(index), 0, 1 + index % 3) for index in range(8)]
        order = Order(names + [("f", 1, 1), ("g", 2, 2), ("h", 3, 1)], (("p", 1, 1),))
        pairs = tuple((name, arity) for name, arity, _ in order.things)
        draw = drawer(27)
        for _ in range(20):
            equations = [(drawn_term(draw, pairs, 0, 20), drawn_term(draw, pairs, 0, draw.choice((1, 2, 20))))
                         for _ in range(20)]
            self.assert_joined(order, equations)
        # Each constant is a doubling of the one ahead, in two rows: the longest chains.
        ones = [("n" + str(index),) for index in range(4)]
        others = [("n" + str(index),) for index in range(4, 8)]
        doubling = [(row[index + 1], ("g", row[index], row[index])) for row in (ones, others) for index in range(3)]
        doubling.append((ones[0], others[0]))
        told = led_together(order, doubling, ones[3], others[3])
        self.assertEqual(len(told.chain), 2 * 7 + 8)
        self.assertEqual(chain_led(doubling, ones[3], told.chain), others[3])
        self.assertIs(is_led(order, doubling, ones[3], others[3], told), True)


class LedTest(unittest.TestCase):

    def assert_told(self, order, equations, one, other):
        told = led_together(order, equations, one, other)
        self.assertIs(is_led(order, equations, one, other, told), True)
        if isinstance(told, Chained):
            self.assertEqual(chain_led(equations, one, told.chain), other)
        else:
            self.assertIsInstance(told, Parted)
            self.assertTrue(falling_and_lean(order, told.rules))
            for left, right in equations:
                self.assertEqual(normal(told.rules, left), normal(told.rules, right))
            self.assertNotEqual(normal(told.rules, one), normal(told.rules, other))
        return told

    def test_by_hand(self):
        self.assertEqual(self.assert_told(ORDER, (), A, A).chain, ())
        self.assertEqual(self.assert_told(ORDER, (), A, B).rules, ())
        self.assertIsInstance(self.assert_told(ORDER, [(A, B)], f(A), f(B)), Chained)
        self.assertIsInstance(self.assert_told(ORDER, [(f(A), f(B))], A, B), Parted)
        self.assertIsInstance(self.assert_told(ORDER, [(("p", A), YES), (A, B)], ("p", B), YES), Chained)
        self.assertIsInstance(self.assert_told(ORDER, [(("p", A), YES)], ("q",), YES), Parted)
        threes = [(chain_of("f", 3, A), A), (chain_of("f", 5, A), A)]
        self.assertIsInstance(self.assert_told(ORDER, threes, A, f(A)), Chained)
        self.assertIsInstance(self.assert_told(ORDER, threes, B, f(B)), Parted)

    def test_drawn(self):
        draw = drawer(28)
        counted = {Chained: 0, Parted: 0}
        for _ in range(400):
            equations = drawn_equations(draw, 6)
            row = draw.choice((THINGS[:25], OTHERS[:8]))
            one, other = draw.choice(row), draw.choice(row)
            if draw.random() < 0.3:
                other = drawn_chain(draw, equations, one, 5)[1]
            told = self.assert_told(ORDER, equations, one, other)
            self.assertEqual(isinstance(told, Chained), are_led(equations, one, other))
            counted[told.__class__] += 1
            self.assert_changed(draw, equations, one, other, told)
        self.assertGreater(min(counted.values()), 80)

    def assert_changed(self, draw, equations, one, other, told):
        """What led_together told, changed at one place, is judged rightly."""
        if isinstance(told, Chained):
            self.assertIs(is_led(ORDER, equations, one, other, Parted(joined(ORDER, equations).rules)), False)
            for index, (path, number, way) in enumerate(told.chain):
                for triple in ((path + (0,), number, way), (path, number, not way), (path, number + 1, way)):
                    chain = told.chain[:index] + (triple,) + told.chain[index + 1:]
                    expected = chain_end(equations, one, chain) == other
                    self.assertIs(is_led(ORDER, equations, one, other, Chained(chain)), expected)
                less = told.chain[:index] + told.chain[index + 1:]
                expected = chain_end(equations, one, less) == other
                self.assertIs(is_led(ORDER, equations, one, other, Chained(less)), expected)
            return
        self.assertIs(is_led(ORDER, equations, one, other, Chained(())), False)
        for index, (left, right) in enumerate(told.rules):
            less = told.rules[:index] + told.rules[index + 1:]
            # Rules of joined equations are all needed.
            self.assertIs(is_led(ORDER, equations, one, other, Parted(less)), False)
            turned = told.rules[:index] + ((right, left),) + told.rules[index + 1:]
            self.assertIs(is_led(ORDER, equations, one, other, Parted(turned)), False)
            self.assertIs(is_led(ORDER, equations, one, other, Parted(told.rules + ((left, right),))), False)

    def test_other_rules_that_part(self):
        told = Parted(((f(B), B), (C, A)))
        self.assertIs(is_led(ORDER, [(f(B), B)], A, B, told), True)
        self.assertIs(is_led(ORDER, [(f(B), B)], A, C, told), False)
        self.assertIs(is_led(ORDER, [(f(B), B)], A, B, Parted([(f(B), B)])), True)
        self.assertIs(is_led(ORDER, [(A, B)], A, B, Chained([((), 0, True)])), True)

    def test_other_values(self):
        equations = [(A, B), (f(A), C)]
        self.assertIs(is_led(ORDER, equations, A, B, (((), 0, True),)), False)
        self.assertIs(is_led(ORDER, equations, A, B, Joined((), ())), False)
        for value in strange_values():
            self.assertIs(is_led(ORDER, equations, A, B, value), False)
            self.assertIs(is_led(ORDER, equations, A, C, value), False)
            self.assertIs(is_led(ORDER, equations, A, B, Chained(value)), False)
            self.assertIs(is_led(ORDER, equations, A, C, Parted(value)), False)
            self.assertIs(is_led(ORDER, equations, A, C, Parted(((B, A), (f(A), C), (value, A)))), False)
            self.assertIs(is_led(ORDER, equations, A, B, Chained((((), 0, True), value))), False)
        self.assertIs(is_led(ORDER, equations, A, C, Parted(((B, A), (f(A), C)))), True)

    def test_classes_keep_what_they_are_given(self):
        row = [[1], 2]
        for made, field in ((Joined(row, 5), "rules"), (Joined(5, row), "chains"), (Chained(row), "chain"),
                            (Parted(row), "rules")):
            self.assertEqual(getattr(made, field), ([1], 2))
            self.assertIs(getattr(made, field)[0], row[0])
            self.assertEqual(made, made)
        for value in strange_values():
            if not isinstance(value, list):
                self.assertIs(Chained(value).chain, value)
                self.assertIs(Parted(value).rules, value)
                self.assertIs(Joined(value, 1).rules, value)
                self.assertIs(Joined(1, value).chains, value)
        self.assertNotEqual(Chained(()), Chained(()))
        self.assertNotEqual(Parted(()), Parted(()))
        self.assertNotEqual(Joined((), ()), Joined((), ()))


if __name__ == "__main__":
    unittest.main()
