"""Points [65] to [69]: finite structures, the lots that ask for them, and the judge of what is told."""

import itertools
import unittest

from downtoground.ground import Closed, Rules, decide, is_closed, is_decided
from downtoground.orders import Order
from downtoground.rules import are_rules
from downtoground.structures import (Found, NoneFound, NoneUpTo, Structure, first_false, is_sought, is_structure, is_true,
                                     least_structure, lot_of, members, rules_of, structure_of, tables_of, value_in,
                                     with_elements)
from downtoground.texts import clause_of
from tests.helpers import drawer, drawn_term, strange_values
from tests.reckoning import YES, all_tables, false_values, rows, value, walk_tree

ORDER = Order((("a", 0, 2), ("f", 1, 1), ("b", 0, 1)), (("p", 1, 1), ("q", 0, 3)))
WIDE = Order((("c", 0, 1), ("g", 2, 3), ("h", 3, 1)), (("r", 2, 1),))
TABLES = {"a": (1,), "f": (1, 0), "b": (0,), "p": (False, True), "q": (True,)}


def clauses(*texts):
    return tuple(clause_of(text) for text in texts)


def drawn_tables(draw, order, size):
    tables = {}
    for name, arity, _ in order.things:
        tables[name] = tuple(draw.randrange(size) for _ in range(size ** arity))
    for name, arity, _ in order.truths:
        tables[name] = tuple(draw.random() < 0.5 for _ in range(size ** arity))
    return tables


def drawn_clause(draw, order, variable_count, most):
    things = tuple((name, arity) for name, arity, _ in order.things)
    clause = []
    for _ in range(draw.randint(1, most)):
        left, right = (drawn_term(draw, things, variable_count, draw.randint(1, 4)) for _ in range(2))
        if order.truths and draw.random() < 0.4:
            name, arity, _ = draw.choice(order.truths)
            left = (name,) + tuple(drawn_term(draw, things, variable_count, draw.randint(1, 3)) for _ in range(arity))
            left, right = draw.choice(((left, YES), (YES, left)))
        clause.append((draw.random() < 0.5, left, right))
    return tuple(clause)


class AwkwardKey:
    """A key that is found where a name is looked for, and bears no comparing."""

    def __hash__(self):
        return hash("a")

    def __eq__(self, other):
        raise ArithmeticError("compared")


class StructureTest(unittest.TestCase):

    def test_what_is_kept(self):
        tables = {"a": [0]}
        made = Structure(2, tables)
        self.assertEqual(made.size, 2)
        self.assertIs(made.tables, tables)
        self.assertEqual(Structure([1], [2]).size, (1,))
        self.assertEqual(Structure([1], [2]).tables, (2,))
        for thing in strange_values():
            if not isinstance(thing, list):
                self.assertIs(Structure(thing, 1).size, thing)
                self.assertIs(Structure(1, thing).tables, thing)
        self.assertEqual(made, made)
        self.assertNotEqual(made, Structure(2, tables))

    def test_those_that_are_one(self):
        self.assertIs(is_structure(ORDER, Structure(2, TABLES)), True)
        self.assertIs(is_structure(ORDER, Structure(2, dict(sorted(TABLES.items())))), True)
        self.assertIs(is_structure(Order((("a", 0, 1),), ()), Structure(1, {"a": (0,)})), True)
        draw = drawer(65)
        for size in (1, 2, 3):
            for order in (ORDER, WIDE):
                self.assertIs(is_structure(order, Structure(size, drawn_tables(draw, order, size))), True)

    def test_those_that_are_none(self):
        for size in (0, -1, 1, 3, True, 2.0, "2", None, (2,)):
            self.assertIs(is_structure(ORDER, Structure(size, TABLES)), False)
        self.assertIs(is_structure(Order((("a", 0, 1),), ()), Structure(True, {"a": (0,)})), False)
        self.assertIs(is_structure(Order((("a", 0, 1),), ()), Structure(0, {"a": (0,)})), False)
        for name in TABLES:
            less = {other: TABLES[other] for other in TABLES if other != name}
            self.assertIs(is_structure(ORDER, Structure(2, less)), False)
            less["other"] = TABLES[name]
            self.assertIs(is_structure(ORDER, Structure(2, less)), False)
        for name in ("other", "yes", 1, None, ("a",)):
            more = dict(TABLES)
            more[name] = (True,)
            self.assertIs(is_structure(ORDER, Structure(2, more)), False)
        for name, tables in (
                ("a", ((), (0, 0), (2,), (-1,), (True,), (False,), (0.0,), ("0",), [0], 0, None, ((0,),))),
                ("f", ((0,), (0, 1, 0), (0, 2), (0, True), (None, 0), [0, 1])),
                ("p", ((True,), (True, False, True), (0, 1), (True, 1), (True, None), [True, False], "ab")),
                ("q", ((), (1,), (0,), (None,), True))):
            for table in tables:
                changed = dict(TABLES)
                changed[name] = table
                self.assertIs(is_structure(ORDER, Structure(2, changed)), False)
        self.assertIs(is_structure(WIDE, Structure(10 ** 30, {"c": (0,), "g": (0,), "h": (0,), "r": (True,)})), False)

    def test_other_values(self):
        keyed = {other: TABLES[other] for other in TABLES if other != "a"}
        keyed[AwkwardKey()] = (0,)
        self.assertIs(is_structure(ORDER, Structure(2, keyed)), False)
        for thing in (TABLES, (2, TABLES), Found(Structure(2, TABLES))):
            self.assertIs(is_structure(ORDER, thing), False)
        for thing in strange_values():
            self.assertIs(is_structure(ORDER, thing), False)
            self.assertIs(is_structure(ORDER, Structure(2, thing)), False)
            self.assertIs(is_structure(ORDER, Structure(thing, TABLES)), False)
            for name in TABLES:
                changed = dict(TABLES)
                changed[name] = thing
                if not isinstance(thing, tuple) or len(thing) != 2:
                    self.assertIs(is_structure(ORDER, Structure(2, changed)), False)
                changed[name] = (thing,) * len(TABLES[name])
                is_truth = isinstance(thing, bool)
                fits = is_truth if name in "pq" else isinstance(thing, int) and not is_truth and 0 <= thing < 2
                self.assertIs(is_structure(ORDER, Structure(2, changed)), fits)


class ValueTest(unittest.TestCase):

    def test_by_hand(self):
        structure = Structure(2, TABLES)
        for term, values, expected in (
                (0, (1,), 1), (1, (1, 0), 0), (("a",), (), 1), (("f", ("a",)), (), 0), (("f", ("f", 0)), (1,), 1),
                (("p", ("a",)), (), True), (("p", 2), (1, 1, 0), False), (("q",), (), True), (YES, (), True)):
            self.assertIs(value_in(structure, term, values), expected)
            self.assertIs(value_in(structure, term, list(values)), expected)
        wide = Structure(2, {"c": (0,), "g": (0, 1, 1, 0), "h": (0, 0, 0, 1, 0, 0, 0, 0), "r": (True, False, True, False)})
        for row in rows(2, 3):
            self.assertEqual(value_in(wide, ("g", 0, 1), row), row[0] ^ row[1])
            self.assertEqual(value_in(wide, ("h", 0, 1, 2), row), int(row == (0, 1, 1)))
            self.assertIs(value_in(wide, ("r", 0, 2), row), row[2] == 0)

    def test_clauses_by_hand(self):
        structure = Structure(2, TABLES)
        for text, expected in (
                ("[]", ()), ("a = b", ()), ("a != b", None), ("f(X0) != X0", None), ("f(X0) = a", (1,)), ("p(X0)", (0,)),
                ("p(X0) | p(f(X0))", None), ("X1 = X0", (0, 1)), ("X0 = X1 | X1 = X2 | X0 = X2", None),
                ("p(X2) | q != yes", (0, 0, 0)), ("X3 != a", (0, 0, 0, 1)), ("yes", None), ("not yes", ()),
                ("yes = q", None), ("X1 != X3 | p(X1)", (0, 0, 0, 0)), ("f(X2) = X0 | X0 = b | X2 = b", (1, 0, 1))):
            clause = clause_of(text)
            self.assertIs(is_true(structure, clause), expected is None, text)
            told = first_false(structure, clauses("q", "a != b", text, "[]"))
            self.assertEqual(told, (3, ()) if expected is None else (2, expected), text)
            self.assertEqual(first_false(structure, [clause]), None if expected is None else (0, expected))
        self.assertIsNone(first_false(structure, ()))

    def test_drawn(self):
        draw = drawer(66)
        counted = [0, 0]
        for _ in range(400):
            order = draw.choice((ORDER, WIDE))
            size = draw.randint(1, 3)
            tables = drawn_tables(draw, order, size)
            structure = Structure(size, tables)
            row = [drawn_clause(draw, order, draw.randint(0, 3), 4) for _ in range(draw.randint(1, 3))]
            falses = [false_values(size, tables, clause) for clause in row]
            self.assertEqual([is_true(structure, clause) for clause in row], [not wrong for wrong in falses])
            expected = [(number, wrong[0]) for number, wrong in enumerate(falses) if wrong]
            self.assertEqual(first_false(structure, row), expected[0] if expected else None)
            counted[bool(expected)] += 1
            for clause in row:
                for _, left, right in clause:
                    values = tuple(draw.randrange(size) for _ in range(4))
                    self.assertIs(value_in(structure, left, values), value(size, tables, left, values))
        self.assertGreater(min(counted), 40)

    def test_a_far_variable(self):
        self.assertEqual(first_false(Structure(2, TABLES), clauses("X40 = X3")), (0, (0,) * 40 + (1,)))


class LotTest(unittest.TestCase):

    def test_members(self):
        self.assertEqual(members(1), (("0",),))
        self.assertEqual(members(4), (("0",), ("1",), ("2",), ("3",)))
        told = with_elements(ORDER, 2)
        self.assertIsInstance(told, Order)
        self.assertEqual(told.things, (("0", 0, 1), ("1", 0, 1)) + ORDER.things)
        self.assertEqual(told.truths, ORDER.truths)
        self.assertEqual(len(ORDER.things), 3)

    def test_word_for_word(self):
        m0, m1 = ("0",), ("1",)
        a, b = ("a",), ("b",)
        told = lot_of(ORDER, 2, clauses("f(X0) = X1 | not q", "[]", "p(X1)", "a != b"))
        self.assertEqual(told, (
            ((False, m0, m1),),
            ((True, a, m0), (True, a, m1)),
            ((True, ("f", m0), m0), (True, ("f", m0), m1)),
            ((True, ("f", m1), m0), (True, ("f", m1), m1)),
            ((True, b, m0), (True, b, m1)),
            ((True, ("f", m0), m0), (False, ("q",), YES)),
            ((True, ("f", m0), m1), (False, ("q",), YES)),
            ((True, ("f", m1), m0), (False, ("q",), YES)),
            ((True, ("f", m1), m1), (False, ("q",), YES)),
            (),
            ((True, ("p", m0), YES),), ((True, ("p", m1), YES),), ((True, ("p", m0), YES),), ((True, ("p", m1), YES),),
            ((False, a, b),),
        ))
        self.assertEqual(lot_of(ORDER, 2, list(clauses("a != b")))[-1], ((False, a, b),))
        self.assertEqual(lot_of(Order((("c", 0, 1),), ()), 1, ()), (((True, ("c",), m0),),))

    def test_rows_ascend(self):
        told = lot_of(WIDE, 3, clauses("r(X0, X1)"))
        names = members(3)
        self.assertEqual(told[:3], tuple(((False, names[i], names[j]),) for i, j in ((0, 1), (0, 2), (1, 2))))
        lefts = [("c",)] + [("g",) + row for row in itertools.product(names, repeat=2)]
        lefts += [("h",) + row for row in itertools.product(names, repeat=3)]
        self.assertEqual(told[3:-9], tuple(tuple((True, left, right) for right in names) for left in lefts))
        self.assertEqual(told[-9:], tuple(((True, ("r",) + row, YES),) for row in itertools.product(names, repeat=2)))


class TablesTest(unittest.TestCase):

    def test_by_hand(self):
        rules = rules_of(ORDER, Structure(2, TABLES))
        m0, m1 = ("0",), ("1",)
        self.assertEqual(rules, ((("a",), m1), (("f", m0), m1), (("f", m1), m0), (("b",), m0),
                                 (("p", m1), YES), (("q",), YES)))
        self.assertEqual(tables_of(ORDER, 2, rules), TABLES)
        self.assertEqual(tables_of(ORDER, 2, list(rules)), TABLES)
        # Other rules that satisfy such a lot: f(1) is led on by way of another term.
        more = ((("a",), m1), (("f", m0), m1), (("f", m1), ("b",)), (("b",), m0), (("p", m1), ("q",)), (("q",), YES))
        self.assertEqual(tables_of(ORDER, 2, more), TABLES)

    def test_drawn_tables_and_back(self):
        draw = drawer(67)
        for _ in range(60):
            order = draw.choice((ORDER, WIDE))
            size = draw.randint(1, 3)
            structure = Structure(size, drawn_tables(draw, order, size))
            rules = rules_of(order, structure)
            self.assertIs(are_rules(with_elements(order, size), rules), True)
            self.assertEqual(tables_of(order, size, rules), structure.tables)
            row = [drawn_clause(draw, order, 2, 3) for _ in range(3)]
            right = [clause for clause in row if is_true(structure, clause)]
            lot = lot_of(order, size, right)
            self.assertIs(is_decided(with_elements(order, size), lot, Rules(rules)), True)
            wrong = [clause for clause in row if clause not in right]
            if wrong:
                lot = lot_of(order, size, wrong)
                self.assertIs(is_decided(with_elements(order, size), lot, Rules(rules)), False)

    def test_tables_of_decided_rules(self):
        draw = drawer(68)
        for _ in range(30):
            row = [drawn_clause(draw, ORDER, 2, 3)]
            told = decide(with_elements(ORDER, 2), lot_of(ORDER, 2, row))
            if isinstance(told, Rules):
                structure = Structure(2, tables_of(ORDER, 2, told.rules))
                self.assertIs(is_structure(ORDER, structure), True)
                self.assertIsNone(first_false(structure, row))


class SoughtTest(unittest.TestCase):

    def assert_sought(self, order, size, row):
        told = structure_of(order, size, row)
        self.assertIs(is_sought(order, size, row, told), True)
        if isinstance(told, Found):
            self.assertIs(is_structure(order, told.structure), True)
            self.assertEqual(told.structure.size, size)
            self.assertIsNone(first_false(told.structure, row))
            self.assertFalse([clause for clause in row if false_values(size, told.structure.tables, clause)])
        else:
            self.assertIsInstance(told, NoneFound)
            walk_tree(lot_of(order, size, row), told.tree)
            self.assertIs(is_closed(lot_of(order, size, row), told.tree), True)
        return told

    def test_by_hand(self):
        order = Order((("f", 1, 1), ("a", 0, 1)), ())
        # Steps of two that lead back, and nothing that stays: an even number of elements.
        row = clauses("f(f(X0)) = X0", "f(X0) != X0")
        self.assertEqual([isinstance(self.assert_sought(order, size, row), Found) for size in (1, 2, 3, 4)],
                         [False, True, False, True])
        row = clauses("f(X0) != f(X1) | X0 = X1", "f(X0) != a")
        for size in (1, 2, 3, 4):
            self.assertIsInstance(self.assert_sought(order, size, row), NoneFound)
        self.assertIsInstance(self.assert_sought(order, 1, ((),)), NoneFound)
        self.assertIsInstance(self.assert_sought(order, 2, ()), Found)
        self.assertIsInstance(self.assert_sought(order, 2, list(row)), NoneFound)

    def test_found_exactly_where_some_table_does_it(self):
        order = Order((("a", 0, 1), ("f", 1, 2)), (("p", 1, 1),))
        every = {size: all_tables(order, size) for size in (1, 2)}
        draw = drawer(69)
        counted = {Found: 0, NoneFound: 0}
        for _ in range(150):
            row = [drawn_clause(draw, order, 2, 2) for _ in range(draw.randint(1, 5))]
            for size in (1, 2):
                told = self.assert_sought(order, size, row)
                some = any(not any(false_values(size, tables, clause) for clause in row) for tables in every[size])
                self.assertEqual(isinstance(told, Found), some)
                counted[told.__class__] += 1
        self.assertGreater(min(counted.values()), 50)

    def test_wrong_values(self):
        row = clauses("f(f(X0)) = X0", "f(X0) != X0 | p(X0)", "not p(a)")
        order = Order((("f", 1, 1), ("a", 0, 1)), (("p", 1, 1),))
        right = self.assert_sought(order, 2, row)
        self.assertIs(is_sought(order, 1, row, right), False)
        self.assertIs(is_sought(order, 3, row, right), False)
        self.assertIs(is_sought(order, 2, row + clauses("f(X0) = X0"), right), False)
        tables = right.structure.tables
        for name in tables:
            for table in itertools.product((0, 1, True, False, 2), repeat=len(tables[name])):
                changed = dict(tables)
                changed[name] = table
                structure = Structure(2, changed)
                kinds = [isinstance(worth, bool) == (name == "p") and worth != 2 for worth in table]
                expected = all(kinds) and not [clause for clause in row if false_values(2, changed, clause)]
                self.assertIs(is_sought(order, 2, row, Found(structure)), expected)
        none = self.assert_sought(order, 1, row)
        self.assertIs(is_sought(order, 2, row, none), False)
        self.assertIs(is_sought(order, 1, row[:2], none), False)
        self.assertIs(is_sought(order, 1, row, Closed(none.tree)), False)
        self.assertIs(is_sought(order, 1, row, none.tree), False)
        self.assertIs(is_sought(order, 1, row, NoneFound(none.tree[:2])), False)
        self.assertIs(is_sought(order, 1, row, NoneFound(list(none.tree))), True)
        self.assertIs(is_sought(order, 2, row, right.structure), False)

    def test_other_values(self):
        row = clauses("f(f(X0)) = X0", "f(X0) != X0")
        order = Order((("f", 1, 1), ("a", 0, 1)), ())
        for thing in strange_values():
            for size in (1, 2):
                self.assertIs(is_sought(order, size, row, thing), False)
                self.assertIs(is_sought(order, size, row, Found(thing)), False)
                self.assertIs(is_sought(order, size, row, NoneFound(thing)), False)
                self.assertIs(is_sought(order, size, row, Found(Structure(thing, {"f": (1, 0), "a": (0,)}))), False)
                self.assertIs(is_sought(order, size, row, Found(Structure(2, {"f": (1, 0), "a": thing}))), False)
        self.assertIs(is_sought(order, 2, row, Found(Structure(2, {"f": (1, 0), "a": (0,)}))), True)

    def test_classes_keep_what_they_are_given(self):
        row = [[1], 2]
        for made, field in ((Found(row), "structure"), (NoneFound(row), "tree"), (NoneUpTo(row), "trees")):
            self.assertEqual(getattr(made, field), ([1], 2))
            self.assertIs(getattr(made, field)[0], row[0])
            self.assertEqual(made, made)
        for thing in strange_values():
            if not isinstance(thing, list):
                self.assertIs(Found(thing).structure, thing)
                self.assertIs(NoneFound(thing).tree, thing)
                self.assertIs(NoneUpTo(thing).trees, thing)
        self.assertNotEqual(Found(1), Found(1))
        self.assertNotEqual(NoneFound(1), NoneFound(1))
        self.assertNotEqual(NoneUpTo(()), NoneUpTo(()))


class LeastTest(unittest.TestCase):

    def assert_least(self, order, row, most):
        told = least_structure(order, row, most)
        if isinstance(told, Found):
            size = told.structure.size
            self.assertLessEqual(size, most)
            self.assertIs(is_sought(order, size, row, told), True)
            for less in range(1, size):
                self.assertIsInstance(structure_of(order, less, row), NoneFound)
            return size
        self.assertIsInstance(told, NoneUpTo)
        self.assertIsInstance(told.trees, tuple)
        self.assertEqual(len(told.trees), most)
        for size, tree in enumerate(told.trees, 1):
            self.assertIs(is_closed(lot_of(order, size, row), tree), True)
        return None

    def test_by_hand(self):
        order = Order((("f", 1, 1), ("a", 0, 1)), ())
        self.assertEqual(least_structure(order, (), 0).trees, ())
        self.assertEqual(least_structure(order, ((),), 0).trees, ())
        self.assertEqual(self.assert_least(order, (), 1), 1)
        self.assertEqual(self.assert_least(order, clauses("f(X0) != X0"), 3), 2)
        self.assertEqual(self.assert_least(order, clauses("f(f(f(X0))) = X0", "f(X0) != X0"), 4), 3)
        self.assertEqual(self.assert_least(order, list(clauses("f(f(f(X0))) = X0", "f(X0) != X0")), 2), None)
        self.assertEqual(self.assert_least(order, clauses("f(X0) != f(X1) | X0 = X1", "f(X0) != a"), 4), None)
        self.assertEqual(self.assert_least(order, ((),), 3), None)

    def test_with_constants_alone_it_decides(self):
        order = Order((("a", 0, 1), ("b", 0, 1), ("c", 0, 2)), (("p", 1, 1),))
        every = {size: all_tables(order, size) for size in (1, 2, 3, 4)}
        draw = drawer(70)
        counted = {}
        for _ in range(120):
            row = [drawn_clause(draw, order, 2, 2) for _ in range(draw.randint(1, 6))]
            size = self.assert_least(order, row, 3)
            fitting = [some for some in every if any(not any(false_values(some, tables, clause) for clause in row)
                                                     for tables in every[some])]
            self.assertEqual(size, min(fitting) if fitting else None)
            counted[size] = counted.get(size, 0) + 1
        self.assertGreater(counted[None], 10)
        self.assertGreater(counted[1], 10)
        self.assertGreater(counted[2], 5)
        told = clauses("a != b", "b != c", "a != c")
        self.assertEqual(self.assert_least(order, told, 3), 3)
        self.assertEqual(self.assert_least(order, told, 2), None)


class LimitTest(unittest.TestCase):

    def assert_sought(self, order, size, *texts):
        row = clauses(*texts)
        self.assertLessEqual(len(lot_of(order, size, row)), 300)
        told = structure_of(order, size, row)
        self.assertIs(is_sought(order, size, row, told), True)
        return told.__class__

    def test_three_elements_and_names_of_two_arguments(self):
        group = Order((("e", 0, 1), ("i", 1, 1), ("m", 2, 1), ("a", 0, 1), ("b", 0, 1)), ())
        laws = ("m(X0, m(X1, X2)) = m(m(X0, X1), X2)", "m(e, X0) = X0", "m(i(X0), X0) = e")
        self.assertEqual(self.assert_sought(group, 3, *laws), Found)
        self.assertEqual(self.assert_sought(group, 3, *laws, "m(a, b) != m(b, a)"), NoneFound)
        self.assertEqual(self.assert_sought(group, 3, *laws, "m(X0, X0) = e", "a != e"), NoneFound)
        lattice = Order((("c", 0, 1), ("m", 2, 1), ("j", 2, 1)), ())
        self.assertEqual(self.assert_sought(
            lattice, 3, "m(X0, X1) = m(X1, X0)", "j(X0, X1) = j(X1, X0)", "m(X0, j(X0, X1)) = X0", "j(X0, m(X0, X1)) = X0",
            "m(X0, m(X1, X2)) = m(m(X0, X1), X2)", "j(X0, j(X1, X2)) = j(j(X0, X1), X2)", "m(c, X0) = X0"), Found)
        quasi = Order((("c", 0, 1), ("m", 2, 1)), ())
        self.assertEqual(self.assert_sought(
            quasi, 3, "m(X0, m(X0, X1)) = X1", "m(m(X0, X1), X1) = X0", "m(X0, X0) = X0"), Found)
        self.assertEqual(self.assert_sought(
            quasi, 3, "m(X0, m(X0, X1)) = X1", "m(m(X0, X1), X1) = X0", "m(X0, X0) = X0",
            "m(X0, X1) != m(X1, X0) | X0 = X1"), NoneFound)

    def test_four_elements_and_names_of_one(self):
        order = Order((("c", 0, 1), ("f", 1, 1), ("h", 1, 2)), (("p", 1, 1), ("r", 2, 1)))
        self.assertEqual(self.assert_sought(
            order, 4, "f(f(f(f(X0)))) = X0", "f(f(X0)) != X0", "h(f(X0)) = f(h(X0))", "h(X0) != X0"), Found)
        self.assertEqual(self.assert_sought(
            order, 4, "f(f(f(X0))) = X0", "f(X0) != X0", "p(X0) | p(f(X0))", "not p(X0) | not p(f(X0))"), NoneFound)
        self.assertEqual(self.assert_sought(
            order, 4, "r(X0, f(X0))", "not r(X0, X0)", "not r(X0, X1) | not r(X1, X2) | r(X0, X2)"), NoneFound)
        self.assertEqual(self.assert_sought(
            order, 4, "r(X0, X1) | r(X1, X0)", "not r(X0, X1) | not r(X1, X2) | r(X0, X2)", "not r(X0, c) | X0 = c",
            "r(X0, h(X0))"), Found)

    def test_sixteen_names(self):
        order = Order([("c" + str(index), 0, 1 + index % 5) for index in range(8)] + [("f", 1, 1), ("h", 1, 1)],
                      [("p" + str(index), index % 3, 1) for index in range(6)])
        self.assertEqual(self.assert_sought(
            order, 4, "f(h(X0)) = X0", "f(X0) != h(X0)", "c0 != c1", "c0 != c2", "c1 != c2", "p2(X0, f(X0))",
            "not p2(X0, h(X0))", "p1(X0) | p4(f(X0))", "not p1(X0) | not p4(X0)"), Found)
        self.assertEqual(self.assert_sought(
            order, 4, *["c" + str(i) + " != c" + str(j) for i, j in itertools.combinations(range(5), 2)]), NoneFound)
        self.assertIsInstance(least_structure(order, clauses(
            *["c" + str(i) + " != c" + str(j) for i, j in itertools.combinations(range(5), 2)]), 4), NoneUpTo)


if __name__ == "__main__":
    unittest.main()
