"""Points [37] to [42]: steps, their conclusions, and those that are needed."""

import itertools
import unittest

from downtoground.errors import BadStep
from downtoground.orders import Order
from downtoground.steps import all_steps, conclusion_of, fillings_behind, is_needed
from downtoground.texts import clause_of
from tests.calculus import (SMALL, WIDE, YES, clause_variables, conclusion, drawn_clause, is_instance, is_just, joined,
                            needed, needed_steps, parts, plain, put_all, steps_told, things_light, unifier_of)
from tests.helpers import compared, drawer, filled, strange_values, variables
from tests.reckoning import is_bearable

A, B = ("a",), ("b",)


def clauses(*texts):
    return tuple(plain(clause_of(text)) for text in texts)


# Equations, truths, variables alone, doubled literals, yes with yes, exchanged sides.
ROWS = (
    clauses("f(X0) = X0"), clauses("f(X0) = X1"), clauses("X0 = X1"), clauses("X0 = a", "f(X0) != b"),
    clauses("f(f(X0)) = X0", "f(a) != X0 | p(X0)"), clauses("p(X0) | p(f(X0))", "not p(a) | q"),
    clauses("p(X0) | p(X0)", "yes = p(f(X0)) | q"), clauses("yes = yes | q", "q != yes | yes != yes"),
    clauses("X0 = X1 | p(X0)", "not p(X1) | X1 != X0"), clauses("f(X0) = a | f(X0) = b", "a = f(b) | b = f(a)"),
    clauses("f(X0) = f(X1) | X0 = X1", "f(X0) != a"), clauses("a = b | a = b", "a != b | b != a"),
    clauses("X0 != X0", "X0 != f(X0) | X1 != X0"), clauses("not q", "q | q | not q"), ((), clauses("q")[0]),
    clauses("X0 = f(X1) | yes != q", "f(X0) = X0 | q"), clauses("p(f(X0)) | X0 = a", "not p(X0) | not p(f(X0))"))


def rows():
    draw = drawer(38)
    for row in ROWS:
        yield SMALL, row
    for order in (SMALL, WIDE):
        for _ in range(60):
            row = tuple(drawn_clause(draw, order, 3, 3, draw.choice((2, 3, 4))) for _ in range(draw.choice((1, 2, 2))))
            yield order, row


class ConclusionTest(unittest.TestCase):

    def test_by_hand(self):
        row = clauses("f(X0) = a | p(X0)", "f(f(X1)) != X0 | q", "p(X0) | p(f(b)) | q")
        for step, told in (
                (("put in", 0, 0, 0, 1, 0, 0, (0,)), "p(X0) | q | f(a) != X1"),
                (("put in", 0, 0, 0, 1, 0, 0, ()), "p(f(X0)) | q | a != X1"),
                (("resolved", 1, 0), "q"),
                (("factored", 2, 0, 0, 1, 0), "q | yes != yes | p(f(b))"),
                (("factored", 2, 1, 0, 0, 0), "q | yes != yes | p(f(b))"),
                (("put in", 0, 1, 0, 2, 0, 0, ()), "f(X0) = a | p(f(b)) | q | yes = yes"),
                (("put in", 0, 0, 0, 2, 1, 0, (0,)), "p(b) | p(X0) | q | p(a)"),
                (("put in", 0, 0, 0, 2, 1, 0, ()), None), (("put in", 0, 1, 0, 2, 1, 0, (0,)), None),
                (("put in", 0, 1, 1, 2, 1, 0, ()), None), (("put in", 0, 1, 0, 2, 1, 1, ()), None),
                (("factored", 2, 0, 0, 2, 0), None), (("factored", 2, 0, 1, 1, 0), None),
                (("put in", 0, 0, 1, 1, 0, 0, ()), None)):
            self.assertEqual(conclusion_of(row, step), None if told is None else plain(clause_of(told)), step)
            self.assertEqual(conclusion_of(list(row), step), conclusion_of(row, step))

    def test_rings_of_variables_and_variables_that_stand_for_no_atom(self):
        row = clauses("X0 = f(X0) | p(X0)", "X0 != f(X0)", "p(X0)", "X0 = X1")
        self.assertIsNone(conclusion_of(row, ("resolved", 1, 0)))
        self.assertIsNone(conclusion_of(row, ("put in", 3, 0, 0, 2, 0, 0, ())))
        self.assertIsNone(conclusion_of(row, ("put in", 3, 0, 0, 2, 0, 1, ())))
        self.assertIsNone(conclusion_of(row, ("put in", 2, 0, 0, 0, 0, 1, ())))
        self.assertIsNone(conclusion_of(row, ("put in", 2, 0, 1, 2, 0, 1, ())))
        self.assertIsNone(conclusion_of(clauses("X0 = X1 | q"), ("factored", 0, 0, 0, 1, 0)))
        self.assertIsNone(conclusion_of(clauses("X0 = X1 | q"), ("factored", 0, 1, 1, 0, 0)))

    def test_all_steps_of_rows(self):
        for order, row in rows():
            for step in steps_told(row):
                expected = conclusion(row, step)
                self.assertEqual(conclusion_of(row, step), expected, (row, step))
                self.assertIs(is_needed(order, row, step), needed(order, row, step), (row, step))

    def test_all_needed_ones(self):
        many = 0
        for order, row in rows():
            told = all_steps(order, row)
            self.assertIsInstance(told, tuple)
            self.assertEqual(list(told), needed_steps(order, row))
            self.assertEqual(all_steps(order, list(row)), told)
            many += len(told)
        self.assertGreater(many, 300)

    def test_places_ascend_by_their_rows(self):
        row = clauses("f(X0) = a", "g(g(f(b), f(a)), f(f(b))) != f(a)")
        order = Order((("a", 0, 1), ("b", 0, 1), ("f", 1, 1), ("g", 2, 1)), ())
        places = [step[7] for step, _ in all_steps(order, row) if step[0] == "put in" and step[4] == 1]
        self.assertEqual(places, [(0, 0), (0, 1), (1,), (1, 0)])

    def test_clauses_with_themselves_and_alike_conclusions(self):
        row = clauses("f(f(X0)) = X0")
        told = all_steps(SMALL, row)
        self.assertEqual([step for step, _ in told], [("put in", 0, 0, 0, 0, 0, 0, ()), ("put in", 0, 0, 0, 0, 0, 0, (0,))])
        self.assertEqual([clause for _, clause in told], [clauses("X0 = X0")[0], clauses("f(X0) = f(X0)")[0]])
        twice = clauses("q", "q", "not q")
        told = [pair for pair in all_steps(SMALL, twice) if pair[0][4] == 2]
        self.assertEqual([clause for _, clause in told], [clauses("yes != yes")[0]] * 2)

    def test_from_a_variable(self):
        row = clauses("X0 = a", "f(b) != b")
        told = [step for step, _ in all_steps(SMALL, row) if step[4] == 1]
        self.assertIn(("put in", 0, 0, 0, 1, 0, 0, ()), told)
        self.assertEqual(all_steps(SMALL, clauses("X0 = f(X0)"))[0][0][3], 1)

    def test_no_clauses(self):
        self.assertEqual(all_steps(SMALL, ()), ())
        self.assertEqual(all_steps(SMALL, [()]), ())


def no_steps(row, step):
    """Values that are no steps for a row, made from one that is."""
    wrong = [step[0], step[1:], step[:-1], step + (0,), list(step), [step], (step,), step[::-1]]
    for index, item in enumerate(step):
        for other in (True, False, -1, 99, 0.0, 1.0, "0", "put in", None, (), [], (0,), [0], (99,), (-1,), (True,), (0, 0, 0, 0)):
            if other.__class__ != item.__class__ or other != item:
                wrong.append(step[:index] + (other,) + step[index + 1:])
    told = steps_told(row)
    return [value for value in wrong if not any(is_just(value, right) for right in told)]


class BadStepTest(unittest.TestCase):

    def assert_bad(self, row, value):
        for function in (lambda: conclusion_of(row, value), lambda: is_needed(SMALL, row, value),
                         lambda: fillings_behind(SMALL, row, value, ())):
            with self.assertRaises(BadStep) as caught:
                function()
            self.assertIs(caught.exception.step, value)

    def test_one_thing_changed(self):
        for row in ROWS:
            for step in steps_told(row)[::3]:
                for value in no_steps(row, step):
                    self.assert_bad(row, value)

    def test_signs_sides_and_paths(self):
        row = clauses("f(X0) = a | p(b) | X0 != a", "f(f(X0)) = X1")
        for value in (("resolved", 0, 0), ("resolved", 0, True), ("resolved", False, 2), ("resolved", 2, 0),
                      ("factored", 0, 0, 0, 0, 0), ("factored", 0, 0, 0, 2, 0), ("factored", 0, 2, 0, 0, 0),
                      ("factored", 0, 0, 2, 1, 0), ("factored", 0, 0, True, 1, 0), ("factored", 0, 0, 0, 1, False),
                      ("put in", 0, 2, 0, 1, 0, 0, ()), ("put in", 0, 0, 0, 1, 0, 1, ()), ("put in", 0, 0, 0, 1, 0, 2, ()),
                      ("put in", 0, 0, 0, 1, 0, 0, (0, 0)), ("put in", 0, 0, 0, 1, 0, 0, (0, 0, 0)),
                      ("put in", 0, 0, 0, 1, 0, 0, (1,)), ("put in", 0, 0, 0, 1, 0, 0, [0]),
                      ("put in", 0, 0, 0, 1, 0, 0, (False,)), ("put in", 0, 0, 0, 1, 0, 0, (0.0,)),
                      ("put in", 0, 0, 0, 1, 0, 0, 0), ("put in", 0, 0, True, 1, 0, 0, ()),
                      ("put in", 0, 0, 0, True, 0, 0, ()), ("put", 0, 0, 0, 1, 0, 0, ()), ("input", 0)):
            self.assert_bad(row, value)
        self.assertIsNotNone(conclusion_of(row, ("put in", 0, 0, 0, 1, 0, 0, (0,))))

    def test_any_values(self):
        row = clauses("f(X0) = a | X0 != a", "q")
        for thing in strange_values():
            self.assert_bad(row, thing)
            self.assert_bad((), thing)
            for step in (("resolved", 0, 1), ("put in", 0, 0, 0, 0, 0, 0, ())):
                for index in range(len(step)):
                    value = step[:index] + (thing,) + step[index + 1:]
                    if not any(is_just(value, right) for right in steps_told(row)):
                        self.assert_bad(row, value)

    def test_nothing_that_is_passed_changes(self):
        row = [clause for clause in clauses("f(X0) = a | X0 != a", "q")]
        step = ["resolved", 0, 1]
        with self.assertRaises(BadStep) as caught:
            conclusion_of(row, step)
        self.assertIs(caught.exception.step, step)
        self.assertEqual(step, ["resolved", 0, 1])
        self.assertEqual(tuple(row), clauses("f(X0) = a | X0 != a", "q"))


class FillingsTest(unittest.TestCase):
    """Fact T."""

    def assert_behind(self, order, row, step, filling):
        told = fillings_behind(order, row, step, filling)
        first, second, left, met, rest = joined(row, step)
        numbers = [step[1]] + ([step[4]] if step[0] == "put in" else [])
        self.assertIsInstance(told, tuple)
        self.assertEqual(len(told), len(numbers))
        names = [name for name, _, _ in order.things]
        for number, own in zip(numbers, told):
            self.assertEqual([variable for variable, _ in own], sorted(clause_variables(row[number])))
            for _, term in own:
                self.assertFalse(variables(term))
                self.assertIn(term[0], names)
        table = dict(told[0])
        if second:
            table.update({variable + len(clause_variables(first)): term for variable, term in told[1]})
        self.assertEqual(filled(left, table), filled(met, table))
        behind = put_all(conclusion(row, step), dict(filling))
        self.assertEqual(put_all(rest, table), behind)
        self.assertTrue(self.has_least(order, row, step, table))
        instances = tuple(put_all(row[number], dict(own)) for number, own in zip(numbers, told))
        refuted = instances + tuple((((not sign), one, other),) for sign, one, other in behind)
        self.assertFalse(is_bearable(refuted))

    def has_least(self, order, row, step, table):
        """Whether variables that have gone, by any most general unifier, have the least constant."""
        unifier = unifier_of(row, step)
        rest = put_all(joined(row, step)[4], unifier)
        gone = [variable for literal in joined(row, step)[0] + joined(row, step)[1] for side in literal[1:]
                for variable in variables(filled(side, unifier)) if variable not in clause_variables(rest)]
        constants = [(name,) for name, arity, _ in order.things if arity == 0]
        least = [one for one in constants if all(compared(order, one, other) != "above" for other in constants)][0]
        for variable in table:
            term = filled(variable, unifier)
            if variable in gone and term == variable and table[variable] != least:
                return False
        return True

    def test_by_hand(self):
        row = clauses("f(X0) != X1 | p(X0)", "X0 != X1 | q", "f(X0) = X1 | q", "p(f(X0))")
        self.assertEqual(fillings_behind(SMALL, row, ("resolved", 0, 0), ((0, B),)), (((0, B), (1, ("f", B))),))
        self.assertEqual(fillings_behind(SMALL, row, ("resolved", 1, 0), ()), (((0, A), (1, A)),))
        step = ("put in", 2, 0, 0, 3, 0, 0, (0,))
        self.assertEqual(conclusion_of(row, step), clauses("q | p(X0)")[0])
        self.assertEqual(fillings_behind(SMALL, row, step, [(0, ("f", B))]), (((0, A), (1, ("f", B))), ((0, A),)))

    def test_the_least_constant_is_that_of_the_order(self):
        order = Order((("b", 0, 2), ("f", 1, 1), ("c", 0, 1), ("a", 0, 1)), ())
        self.assertEqual(fillings_behind(order, clauses("X0 != X1"), ("resolved", 0, 0), ()), (((0, ("c",)), (1, ("c",))),))

    def test_drawn(self):
        draw = drawer(39)
        many = 0
        for order, row in rows():
            things = things_light(order, 4)
            for step in [step for step in steps_told(row) if conclusion(row, step) is not None][:40]:
                names = sorted(clause_variables(conclusion(row, step)))
                filling = tuple((variable, draw.choice(things)) for variable in names)
                self.assert_behind(order, row, step, filling)
                many += 1
        self.assertGreater(many, 800)


class LiftingTest(unittest.TestCase):
    """Fact S."""

    def test_ground_steps_between_instances(self):
        draw = drawer(40)
        many = 0
        for order, row in rows():
            things = things_light(order, 4)
            for _ in range(5):
                i, j = draw.randrange(len(row)), draw.randrange(len(row))
                fillings = [{variable: draw.choice(things) for variable in clause_variables(row[index])} for index in (i, j)]
                ground = (put_all(row[i], fillings[0]), put_all(row[j], fillings[1]))
                lifted = all_steps(order, row)
                for step in steps_told(ground):
                    if step[1] == 0 and (step[0] != "put in" or step[4] == 1) and needed(order, ground, step):
                        if step[0] == "put in":
                            general = dict(parts(row[j][step[5]][1 + step[6]])).get(step[7])
                            if not isinstance(general, tuple):
                                continue
                        told = [clause for _, clause in lifted if is_instance(conclusion(ground, step), clause)]
                        self.assertTrue(told, (row, ground, step))
                        many += 1
        self.assertGreater(many, 150)


class OrderedTest(unittest.TestCase):

    def test_no_step_from_a_variable_into_what_it_stands_in(self):
        for order, row in rows():
            for step, _ in all_steps(order, row):
                first, second, left, met, rest = joined(row, step)
                if step[0] != "resolved":
                    right = first[step[2]][2 - step[3]]
                    unifier = unifier_of(row, step)
                    inside = [part for _, part in parts(filled(right, unifier))]
                    self.assertNotIn(filled(left, unifier), inside)

    def test_signs_decide_what_alike_literals_bar(self):
        row = clauses("p(X0) | p(X0)", "not p(X0) | not p(X0)", "q | not p(a)")
        told = [step for step, _ in all_steps(SMALL, row)]
        for pair in itertools.product(range(3), repeat=2):
            here = [step for step in told if step[0] == "put in" and (step[1], step[4]) == pair]
            self.assertEqual(here, [], pair)
        self.assertIn(("factored", 0, 0, 0, 1, 0), told)
        row = clauses("p(X0)", "not p(X0) | not p(X0)")
        told = [step for step, _ in all_steps(SMALL, row) if step[4:5] == (1,)]
        self.assertEqual(told, [("put in", 0, 0, 0, 1, 0, 0, ()), ("put in", 0, 0, 0, 1, 1, 0, ())])
        self.assertEqual(YES, ("yes",))


if __name__ == "__main__":
    unittest.main()
