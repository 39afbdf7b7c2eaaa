"""Points [60] to [64]: rules made by clauses."""

import itertools
import unittest

from downtoground.loop import Saturated, settle
from downtoground.models import all_rules, maker_of, normal_by, rule_at, rules_for, true_by
from downtoground.orders import Order
from downtoground.texts import clause_of
from tests.calculus import SMALL, YES, clause_variables, drawn_clause, matched, put_all
from tests.helpers import compared, compared_clauses, compared_literals, drawer, ground_terms, is_above
from tests.loops import drawn_rows
from tests.reckoning import falling_and_lean, steps, with_part

A, B = ("a",), ("b",)
PAIRS = Order((("b", 0, 1), ("g", 2, 1), ("a", 0, 2)), (("q", 0, 3), ("p", 1, 1)))
ORDERS = ((SMALL, 5), (PAIRS, 5), (Order((("a", 0, 2), ("b", 0, 1), ("c", 0, 1)), (("r", 2, 1), ("q", 0, 1))), 6))


def clauses(*texts):
    return tuple(clause_of(text) for text in texts)


class Plainly:
    """The rules that clauses make, by going through all instances, one left after another, ascending."""

    def __init__(self, order, row, terms):
        self.order = order
        self.row = row
        self.names = [name for name, _, _ in order.things]
        self.terms = terms
        self.rules = []
        self.makers = {}
        for left in terms:
            if not steps(self.rules, left):
                made = self.made(left)
                if made:
                    self.rules.append((left, made[0][0]))
                    self.makers[left] = [(index, table) for _, clause, index, table in made
                                         if compared_clauses(order, clause, made[0][1]) == "alike"]

    def normal(self, rules, term):
        while True:
            ways = steps(rules, term)
            if not ways:
                return term
            term = with_part(term, ways[0][0], rules[ways[0][1]][1])

    def is_true(self, rules, literal):
        sign, left, right = literal
        return (self.normal(rules, left) == self.normal(rules, right)) == sign

    def made(self, left):
        """Tuples (right, clause, index, table) of all instances that may make a rule, the least ones first."""
        found = []
        for index, a, table in self.tables(left):
            clause = put_all(self.row[index], table)
            for right in {clause[a][2] if clause[a][1] == left else clause[a][1]}:
                if self.may_make(clause, a, left, right):
                    found.append((right, clause, index, table))
        least = [item for item in found
                 if all(compared_clauses(self.order, item[1], other[1]) in ("below", "alike") for other in found)]
        return least + [item for item in found if item not in least]

    def tables(self, left):
        things = [term for term in self.terms if term[0] in self.names and not is_above(self.order, term, left)]
        for index, clause in enumerate(self.row):
            for a, (sign, one, other) in enumerate(clause):
                for side in {one, other} if sign else ():
                    table = matched(side, left, {})
                    if table is None or isinstance(side, int) and left[0] not in self.names:
                        continue
                    rest = [variable for variable in clause_variables(clause) if variable not in table]
                    for values in itertools.product(things, repeat=len(rest)):
                        yield index, a, {**table, **dict(zip(rest, values))}

    def may_make(self, clause, a, left, right):
        if left not in clause[a][1:] or not is_above(self.order, left, right):
            return False
        others = clause[:a] + clause[a + 1:]
        if not all(compared_literals(self.order, clause[a], literal) == "above" for literal in others):
            return False
        added = self.rules + [(left, right)]
        return (not any(self.is_true(self.rules, literal) for literal in clause)
                and not any(self.is_true(added, literal) for literal in others))


def asked(many, seed):
    draw = drawer(seed)
    for order, weight in ORDERS:
        terms = ground_terms(order, weight)[:22]
        for _ in range(many):
            row = tuple(drawn_clause(draw, order, 3, 2, 3) for _ in range(draw.randint(1, 4)))
            if sum(len(clause_variables(clause)) > 2 for clause in row) == 0:
                yield draw, order, terms, row
    order = SMALL
    terms = ground_terms(order, 5)[:22]
    for texts in (("f(X0) = X0",), ("f(f(X0)) = X0", "b = a"), ("p(X0) | X0 = a",), ("p(X0) | p(f(X0))", "not p(a) | q"),
                  ("X0 = X1",), ("X0 = a",), ("q | q", "p(a) | q"), ("f(X0) = f(X1) | X0 = X1", "q = yes"), ("yes = p(X4)",),
                  ("f(X7) = a | X7 = a | p(X3)", "a = b"), ("b = a | f(b) = a", "f(b) = b"), ("X0 = X0", "q | not q"), ()):
        yield draw, order, terms, tuple(clause_of(text) for text in texts)


class RulesTest(unittest.TestCase):

    def test_all_lefts_among_the_first_terms(self):
        made = 0
        for draw, order, terms, row in asked(60, 61):
            plainly = Plainly(order, row, terms)
            rules = dict(plainly.rules)
            for left in draw.sample(terms, len(terms)):
                expected = (left, rules[left]) if left in rules else None
                self.assertEqual(rule_at(order, row, left), expected, (row, left))
                maker = maker_of(order, list(row), left)
                if expected is None:
                    self.assertIsNone(maker)
                else:
                    self.assertIn((maker[0], dict(maker[1])), plainly.makers[left])
                    self.assertEqual([variable for variable, _ in maker[1]], sorted(clause_variables(row[maker[0]])))
                    made += 1
                self.assertEqual(normal_by(order, row, left), plainly.normal(plainly.rules, left))
            self.assert_all_rules(order, terms, row, plainly.rules)
            self.assert_true_by(draw, order, terms, row, plainly)
        self.assertGreater(made, 300)

    def assert_all_rules(self, order, terms, row, rules):
        for place in (0, 1, len(terms) // 2, len(terms) - 1):
            told = all_rules(order, row, terms[place])
            self.assertIsInstance(told, tuple)
            self.assertEqual(list(told), [rule for rule in rules if not is_above(order, rule[0], terms[place])])
            self.assertTrue(falling_and_lean(order, told))

    def assert_true_by(self, draw, order, terms, row, plainly):
        things = [term for term in terms if term[0] in plainly.names]
        atoms = [term for term in terms if term[0] not in plainly.names]
        for _ in range(12):
            clause = []
            for _ in range(draw.randint(0, 3)):
                left, right = draw.choice(((draw.choice(things), draw.choice(things)), (draw.choice(atoms), YES),
                                           (YES, draw.choice(atoms))))
                clause.append((draw.random() < 0.5, left, right))
            expected = any(plainly.is_true(plainly.rules, literal) for literal in clause)
            self.assertIs(true_by(order, row, tuple(clause)), expected)

    def test_by_hand(self):
        row = clauses("f(X7) = a | X7 = a", "b = a | q")
        self.assertEqual(rule_at(SMALL, row, B), None)
        self.assertEqual(rule_at(SMALL, row, ("q",)), (("q",), YES))
        self.assertEqual(maker_of(SMALL, row, ("q",)), (1, ()))
        self.assertEqual(rule_at(SMALL, row, ("f", B)), (("f", B), A))
        self.assertEqual(maker_of(SMALL, row, ("f", B)), (0, ((7, B),)))
        self.assertIsNone(rule_at(SMALL, row, ("f", A)))
        self.assertIsNone(rule_at(SMALL, row, YES))
        self.assertIsNone(rule_at(SMALL, row, ("f", ("f", B))))
        self.assertEqual(rule_at(SMALL, row, ("f", ("f", A))), (("f", ("f", A)), A))
        self.assertEqual(normal_by(SMALL, row, ("f", ("f", ("f", B)))), A)
        self.assertIs(true_by(SMALL, row, clause_of("f(b) = a")), True)
        self.assertIs(true_by(SMALL, row, clause_of("f(a) = a")), False)
        self.assertIs(true_by(SMALL, row, ()), False)

    def test_the_least_instance_makes_the_rule(self):
        order = Order((("a", 0, 1), ("b", 0, 1), ("c", 0, 1)), (("q", 0, 1),))
        for texts, maker, right in ((("c = b", "c = a"), 1, A), (("c = b | a = b", "c = b"), 1, B), (("X0 = X1",), 0, A),
                                    (("c = a | b = b", "c = b"), 1, B), (("c = X0 | X0 = b",), 0, A)):
            row = clauses(*texts)
            self.assertEqual(rule_at(order, row, ("c",)), (("c",), right), texts)
            self.assertEqual(maker_of(order, row, ("c",))[0], maker)

    def test_an_equation_that_the_rule_itself_makes_true(self):
        order = Order((("a", 0, 1), ("b", 0, 1), ("c", 0, 1)), ())
        self.assertIsNone(rule_at(order, clauses("c = b | c = b"), ("c",)))
        self.assertIsNone(rule_at(order, clauses("b = a", "c = b | c = a"), ("c",)))
        self.assertEqual(rule_at(order, clauses("c = b | c = a"), ("c",)), (("c",), B))


class RulesForTest(unittest.TestCase):

    def test_rules_for_drawn_lots(self):
        many = 0
        for draw, order, terms, row in asked(60, 62):
            plainly = Plainly(order, row, terms)
            things = [term for term in terms if term[0] in plainly.names]
            atoms = [term for term in terms if term[0] not in plainly.names]
            lot = []
            for _ in range(draw.randint(0, 4)):
                left, right = draw.choice(((draw.choice(things), draw.choice(things)), (draw.choice(atoms), YES)))
                lot.append(((draw.random() < 0.5, left, right),) * draw.randint(0, 2))
            told = rules_for(order, row, lot)
            self.assertIsInstance(told, tuple)
            self.assertEqual(rules_for(order, list(row), tuple(lot)), told)
            self.assertTrue(all(rule in plainly.rules for rule in told))
            self.assertEqual(list(told), sorted(told, key=lambda rule: terms.index(rule[0])))
            self.assertTrue(falling_and_lean(order, told))
            for clause in lot:
                for _, left, right in clause:
                    for side in (left, right):
                        self.assertEqual(plainly.normal(told, side), normal_by(order, row, side))
            many += len(told)
            self.assertEqual(set(rules_for(order, row, lot[::-1])), set(told))
        self.assertGreater(many, 50)

    def test_of_saturated_rows(self):
        """The fact of [62]."""
        draw = drawer(63)
        many = 0
        for order, weight in ORDERS:
            terms = ground_terms(order, weight)[:22]
            things = [term for term in terms if term[0] in [name for name, _, _ in order.things]][:7]
            for row in drawn_rows(draw, order, 60):
                told = settle(order, row, 20)
                if not isinstance(told, Saturated) or any(len(clause_variables(clause)) > 3 for clause in told.lot):
                    continue
                for _ in range(2):
                    lot = []
                    for _ in range(8):
                        clause = draw.choice(row + told.lot)
                        ground = put_all(clause, {variable: draw.choice(things) for variable in clause_variables(clause)})
                        if all(not is_above(order, side, terms[-1]) for _, left, right in ground for side in (left, right)):
                            lot.append(ground)
                    rules = rules_for(order, told.lot, lot)
                    self.assertTrue(falling_and_lean(order, rules))
                    plainly = Plainly(order, (), ())
                    for clause in lot:
                        self.assertTrue(any(plainly.is_true(rules, literal) for literal in clause), (row, told.lot, clause))
                        self.assertIs(true_by(order, told.lot, clause), True)
                        many += 1
        self.assertGreater(many, 400)

    def test_the_same_in_any_order_asked(self):
        row = clauses("f(f(X0)) = X0", "b = a | p(b)", "not p(f(X0)) | f(a) = b")
        terms = ground_terms(SMALL, 6)
        told = {term: rule_at(SMALL, row, term) for term in reversed(terms)}
        self.assertEqual({term: rule_at(SMALL, row, term) for term in terms}, told)
        self.assertEqual(all_rules(SMALL, row, terms[-1]), tuple(told[term] for term in terms if told[term] is not None))

    def test_terms_far_up(self):
        # Nothing that is not asked for is gone through: so lefts may have many below them.
        row = clauses("f(f(X0)) = X0", "g(X0, X0) = X0")
        order = Order((("a", 0, 1), ("b", 0, 1), ("f", 1, 1), ("g", 2, 1)), (("p", 1, 1),))
        term = A
        for _ in range(61):
            term = ("f", term)
        self.assertEqual(normal_by(order, row, ("g", term, ("f", A))), ("f", A))
        self.assertEqual(len(rules_for(order, row, [((True, ("p", term), YES),)])), 1)

    def test_what_is_below(self):
        self.assertEqual(compared(SMALL, A, B), "below")
        self.assertEqual(all_rules(SMALL, clauses("b = a"), YES), ())
        self.assertEqual(all_rules(SMALL, clauses("b = a"), B), ((B, A),))


if __name__ == "__main__":
    unittest.main()
