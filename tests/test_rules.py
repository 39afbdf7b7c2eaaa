"""Points [19] and [20]: ground rules, steps, and normal forms."""

import unittest

from downtoground.orders import Order
from downtoground.rules import are_rules, holds, joined, normal, stepped, steps_from
from tests.helpers import chain_of, drawer, is_above, strange_values
from tests.reckoning import YES, falling_and_lean, led, light_terms, parts, steps

ORDER = Order((("a", 0, 1), ("b", 0, 2), ("f", 1, 1), ("g", 2, 1), ("c", 0, 1)), (("p", 1, 2), ("q", 0, 1), ("r", 2, 1)))
A, B, C = ("a",), ("b",), ("c",)
THINGS, OTHERS = light_terms(ORDER, 5)


def f(term):
    return ("f", term)


def g(one, other):
    return ("g", one, other)


def drawn_rules(draw):
    """Falling lean rules, drawn pair by pair."""
    rules = ()
    for _ in range(draw.randint(0, 9)):
        row = draw.choice((THINGS, THINGS, OTHERS))
        one, other = draw.choice(row), draw.choice(row)
        new = rules + ((one, other) if is_above(ORDER, one, other) else (other, one),)
        if one != other and falling_and_lean(ORDER, new):
            rules = new
    return rules


def drawn_equations(draw, most):
    small = THINGS[:12]
    found = []
    for _ in range(draw.randint(0, most)):
        if draw.random() < 0.25:
            found.append((draw.choice(OTHERS), draw.choice(OTHERS)))
        else:
            found.append((draw.choice(THINGS), draw.choice(small)) if draw.random() < 0.7 else
                         (draw.choice(small), draw.choice(small)))
    return tuple(found)


class AreRulesTest(unittest.TestCase):

    def assert_none(self, value):
        self.assertIs(are_rules(ORDER, value), False)

    def test_by_hand(self):
        for rules in ((), ((f(A), A),), ((C, A), (g(A, A), f(A))), ((("p", A), YES),), ((("p", A), ("q",)), (("q",), YES)),
                      ((f(f(A)), f(A)), (g(A, A), B)), ((("r", C, C), ("p", A)),), ((g(f(A), A), g(A, f(A))),)):
            self.assertIs(are_rules(ORDER, rules), True)
        wrong = [
            ((A, f(A)),), ((A, A),), ((f(A), A), (g(f(A), A), B)), ((g(f(A), A), B), (f(A), A)), ((f(A), f(A)),),
            ((f(A), A), (f(A), B)), ((f(B), B), (f(B), B)), ((("p", f(A)), YES), (f(A), A)), ((YES, ("p", A)),),
            ((("p", A), A),), ((f(A), YES),), ((f(A), ("q",)),), ((("p", A), f(A)),), ((f(0), A),), ((f(A), 0),), ((0, 0),),
            ((("d",), A),), ((f(A, ), ("d",)),), ((("f",), A),), ((("f", A, A), A),), ((f(("q",)), A),), ((f(YES), A),),
            ((("p", ("q",)), YES),), ((("p", ("p", A)), YES),), ((("yes", A), YES),), ((f(A), A, A),), ((f(A),),), (f(A), A),
            [(f(A), A)], ([f(A), A],), ((["f", A], A),), ((("f", ["a"]), A),), ((f(A), ["a"]),), ({}, ()), ((),), (None,),
            ((f(True), A),), ((f(A), False),), ((("f", A), ()),), (((), A),), ((("f", ()), A),), (((1, A), A),),
        ]
        for value in wrong:
            self.assert_none(value)

    def test_other_values(self):
        for value in strange_values():
            if not isinstance(value, tuple) or len(value) > 0:
                self.assert_none(value)
            self.assert_none((value,))
            self.assert_none(((value, value),))
            self.assert_none(((f(A), value),))
            self.assert_none(((value, A),))
            self.assert_none(((f(A), A), (("f", value), A)))
            self.assert_none(((g(A, value), A),))
            self.assert_none(((g(value, A), A),))
            self.assert_none(((("r", value, A), YES),))

    def test_deep_rules(self):
        deep, other = chain_of("f", 20000, A), chain_of("f", 20000, C)
        self.assertIs(are_rules(ORDER, ((other, deep),)), True)
        self.assert_none(((deep, other),))
        self.assert_none(((deep, chain_of("f", 20000, A)),))
        self.assert_none(((other, A), (C, A)))
        self.assertIs(are_rules(ORDER, ((deep, A), (chain_of("f", 20000, C), C))), True)

    def test_drawn_rules_and_such_with_one_thing_changed(self):
        draw = drawer(20)
        right = 0
        for _ in range(400):
            rules = drawn_rules(draw)
            self.assertIs(are_rules(ORDER, rules), True)
            if not rules:
                continue
            index = draw.randrange(len(rules))
            row = draw.choice((THINGS, OTHERS))
            changed = list(rules)
            changed[index] = draw.choice(((draw.choice(row), draw.choice(row)), rules[index][::-1],
                                          draw.choice(rules), (rules[index][0], draw.choice(row))))
            same_kind = (changed[index][0] in THINGS) == (changed[index][1] in THINGS)
            expected = same_kind and falling_and_lean(ORDER, changed)
            right += expected
            self.assertIs(are_rules(ORDER, tuple(changed)), expected)
            self.assert_none(changed)
        self.assertGreater(right, 30)


class StepsTest(unittest.TestCase):

    def test_by_hand(self):
        rules = ((f(A), A), (C, B), (f(A), B))
        term = g(f(A), f(C))
        self.assertEqual(steps_from(rules, term), (((0,), 0), ((0,), 2), ((1, 0), 1)))
        self.assertEqual(steps_from(list(rules), A), ())
        self.assertEqual(steps_from(((C, A),), C), (((), 0),))
        self.assertEqual(steps_from(((C, A),), g(g(C, C), C)), (((0, 0), 0), ((0, 1), 0), ((1,), 0)))
        self.assertEqual(stepped(rules, term, (0,), 0), g(A, f(C)))
        self.assertEqual(stepped(rules, term, (0,), 2), g(B, f(C)))
        self.assertEqual(stepped(rules, term, (1, 0), 1), g(f(A), f(B)))
        self.assertEqual(stepped(rules, C, (), 1), B)
        self.assertEqual(normal(((f(A), A),), f(f(f(A)))), A)
        self.assertEqual(normal((), f(C)), f(C))
        self.assertEqual(normal(((("q",), YES), (("p", A), ("q",)), (C, A)), ("p", C)), YES)
        self.assertEqual(normal([(C, A), (f(A), A)], g(f(C), C)), g(A, A))

    def test_all_ways_come_to_the_normal_form(self):
        draw = drawer(21)
        longest = 0
        for _ in range(500):
            rules = draw.choice((drawn_rules(draw), joined(ORDER, drawn_equations(draw, 5)).rules))
            term = draw.choice(draw.choice((THINGS, OTHERS)))
            if draw.random() < 0.7:
                term = g(draw.choice(THINGS), g(draw.choice(THINGS), draw.choice(THINGS)))
            self.assertEqual(steps_from(rules, term), tuple(sorted(steps(rules, term))))
            told = normal(rules, term)
            self.assertEqual(steps_from(rules, told), ())
            for _ in range(4):
                self.assertEqual(led(rules, term, draw), told)
            many = 0
            while steps_from(rules, term):
                path, index = draw.choice(steps_from(rules, term))
                new = stepped(rules, term, path, index)
                self.assertEqual(dict(parts(term))[path], rules[index][0])
                self.assertEqual(dict(parts(new))[path], rules[index][1])
                self.assertTrue(is_above(ORDER, term, new))
                term = new
                many += 1
            self.assertEqual(term, told)
            longest = max(longest, many)
        self.assertGreater(longest, 3)

    def test_long_ways(self):
        self.assertEqual(normal(((f(A), A),), chain_of("f", 3000, A)), A)
        names = ["n" + str(index) for index in range(1500)]
        order = Order([(name, 0, 1) for name in names] + [("f", 1, 1)], ())
        rules = tuple(((high,), (low,)) for low, high in zip(names, names[1:]))
        self.assertIs(are_rules(order, rules), True)
        self.assertEqual(normal(rules, ("f", (names[-1],))), ("f", (names[0],)))

    def test_which_clauses_hold(self):
        rules = ((C, A), (f(A), A), (("p", A), YES))
        for clause, expected in (
                ((), False), (((True, C, A),), True), (((False, C, A),), False), (((True, f(C), C),), True),
                (((True, B, A),), False), (((False, B, A),), True), (((True, ("p", f(C)), YES),), True),
                (((False, ("p", C), YES),), False), (((True, ("q",), YES),), False), (((False, ("q",), YES),), True),
                (((True, B, A), (False, C, A), (True, YES, ("p", A))), True), (((True, B, A), (False, C, A)), False),
                (((True, YES, YES),), True), (((False, YES, YES),), False)):
            self.assertIs(holds(rules, clause), expected)
            self.assertIs(holds(list(rules), clause), expected)

    def test_drawn_clauses(self):
        draw = drawer(22)
        for _ in range(200):
            rules = drawn_rules(draw)
            clause = tuple((draw.random() < 0.5,) + draw.choice(((draw.choice(THINGS), draw.choice(THINGS)),
                                                                 (draw.choice(OTHERS), YES)))
                           for _ in range(draw.randint(0, 3)))
            expected = any((led(rules, left, draw) == led(rules, right, draw)) == sign for sign, left, right in clause)
            self.assertIs(holds(rules, clause), expected)

    def test_arguments_stay(self):
        rules = [(C, A), (f(A), A)]
        normal(rules, f(C))
        holds(rules, ((True, C, A),))
        joined(ORDER, rules)
        self.assertEqual(rules, [(C, A), (f(A), A)])


if __name__ == "__main__":
    unittest.main()
