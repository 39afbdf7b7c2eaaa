"""Points [32] to [36]: lots of ground clauses, decided, and the judge of what is told."""

import itertools
import unittest
from unittest import mock

from downtoground.ground import Closed, Rules, decide, few, is_closed, is_decided, named_by
from downtoground.orders import Order
from downtoground.rules import Parted, are_rules, holds
from tests.helpers import chain_of, drawer, drawn_term, strange_values
from tests.reckoning import YES, is_bearable, named_in, walk_tree
from tests.test_rules import A, B, C, ORDER, OTHERS, THINGS, f, g

P, Q = ("p", A), ("q",)


def yes(term):
    return (True, term, YES)


def no(term):
    return (False, term, YES)


def one(left, right):
    return (True, left, right)


def unlike(left, right):
    return (False, left, right)


def drawn_lot(draw, most):
    things = THINGS[:draw.choice((3, 4, 6, 12))]
    lot = []
    for _ in range(draw.randint(1, most)):
        clause = []
        for _ in range(draw.choice((1, 1, 2, 2, 3))):
            if draw.random() < 0.3:
                atom = (draw.choice(OTHERS[:4]), YES)
                clause.append((draw.random() < 0.5,) + draw.choice((atom, atom[::-1])))
            else:
                clause.append((draw.random() < 0.5, draw.choice(things), draw.choice(things)))
        lot.append(tuple(clause) + tuple(clause[:draw.choice((0, 0, 0, 1))]))
    return tuple(lot)


def pigeons(many, holes):
    """Each of so many is in a hole, and no two are in one."""
    lot = [tuple(yes(("in", ("n" + str(x),), ("h" + str(h),))) for h in range(holes)) for x in range(many)]
    for h in range(holes):
        for y in range(many):
            lot += [tuple(no(("in", ("n" + str(x),), ("h" + str(h),))) for x in (z, y)) for z in range(y)]
    names = [("n" + str(x), 0, 1) for x in range(many)] + [("h" + str(h), 0, 1) for h in range(holes)]
    return Order(names, (("in", 2, 1),)), tuple(lot)


class DecideTest(unittest.TestCase):

    def assert_decided(self, order, lot):
        told = decide(order, lot)
        self.assertIs(is_decided(order, lot, told), True)
        if isinstance(told, Rules):
            self.assertIs(are_rules(order, told.rules), True)
            for clause in lot:
                self.assertTrue(holds(told.rules, clause))
        else:
            self.assertIsInstance(told, Closed)
            self.assertGreater(walk_tree(lot, told.tree), 0)
            self.assertIs(is_closed(lot, told.tree), True)
            self.assertEqual(named_by(told.tree), tuple(sorted(named_in(told.tree))))
        return told

    def test_lots_that_rules_satisfy(self):
        for lot in ((), ((yes(P),),), ((one(A, B),), (unlike(A, C),)), ((unlike(A, B), one(A, B)),), ((no(P), no(Q)),),
                    ((one(A, B), one(A, C)), (unlike(A, B), yes(P))), ((yes(YES),),), ((one(A, A),),),
                    ((one(YES, P),), (unlike(YES, Q),)), ((one(f(f(A)), A),), (unlike(f(A), A),)),
                    ((no(P), one(A, B)), (yes(("p", B)),), (no(Q),), (yes(P), yes(Q)))):
            self.assertIsInstance(self.assert_decided(ORDER, lot), Rules)
            self.assertIsInstance(self.assert_decided(ORDER, list(lot)), Rules)
            self.assertIsNone(few(ORDER, lot))
        self.assertEqual(decide(ORDER, ()).rules, ())

    def test_lots_with_a_tree(self):
        lots = [
            ((),), ((yes(P),), ()), ((unlike(A, A),),), ((no(YES),),), ((unlike(YES, YES), unlike(B, B)),),
            ((yes(P),), (no(P),)), ((one(YES, P),), (unlike(P, YES),)), ((one(A, B),), (unlike(B, A),)),
            ((one(A, B),), (unlike(f(A), f(B)),)), ((one(A, B),), (yes(("p", A)),), (no(("p", B)),)),
            ((one(A, B),), (one(B, C),), (unlike(g(A, B), g(C, A)),)),
            ((one(chain_of("f", 3, A), A),), (one(chain_of("f", 5, A), A),), (unlike(f(A), A),)),
            ((one(A, B), one(A, C)), (unlike(A, B),), (unlike(f(A), f(C)),)),
            ((no(P), one(A, B)), (yes(P),), (yes(("p", f(A))),), (no(("p", f(B))),)),
            ((yes(P), yes(Q)), (yes(P), no(Q)), (no(P), yes(Q)), (no(P), no(Q))),
            ((yes(P), yes(P), yes(P)), (no(P), no(P))),
        ]
        for lot in lots:
            self.assertIsInstance(self.assert_decided(ORDER, lot), Closed)
            self.assertIsInstance(self.assert_decided(ORDER, list(lot)), Closed)
        self.assertEqual(decide(ORDER, ((),)).tree, ("case", 0, ()))
        self.assertEqual(decide(ORDER, ((yes(P),), ())).tree, ("case", 1, ()))

    def test_drawn_lots(self):
        draw = drawer(33)
        counted = {Rules: 0, Closed: 0}
        for _ in range(500):
            lot = drawn_lot(draw, 10)
            told = self.assert_decided(ORDER, lot)
            self.assertEqual(isinstance(told, Rules), is_bearable(lot))
            counted[told.__class__] += 1
        self.assertGreater(min(counted.values()), 100)

    def test_lots_that_are_long_for_each_way(self):
        # With turns so short the search learns, and goes on with fewer clauses.
        draw = drawer(35)
        names = [("t" + str(index),) for index in range(7)]
        order = Order((("a", 0, 1),), [name + (0, 1) for name in names])
        counted = {Rules: 0, Closed: 0}
        for turn in (1, 2, 4):
            with mock.patch("downtoground.cases.FIRST_MOST", turn), mock.patch("downtoground.cases.MOST_LEARNED", turn):
                for _ in range(60):
                    lot = drawn_lot(draw, 12)
                    told = self.assert_decided(ORDER, lot)
                    self.assertEqual(isinstance(told, Rules), is_bearable(lot))
                    lot = [tuple((draw.random() < 0.5, name, YES) for name in draw.sample(names, 3))
                           for _ in range(draw.randint(25, 40))]
                    told = self.assert_decided(order, lot)
                    counted[told.__class__] += 1
                    self.assertEqual(isinstance(told, Rules), any(
                        all(any((name in row) == sign for sign, name, _ in clause) for clause in lot)
                        for many in range(8) for row in itertools.combinations(names, many)))
                self.assertIsInstance(self.assert_decided(*pigeons(5, 4)), Closed)
        self.assertGreater(min(counted.values()), 20)

    def test_arguments_stay(self):
        lot = [(yes(P), yes(Q)), (no(P),), (no(Q),)]
        copy = list(lot)
        decide(ORDER, lot)
        few(ORDER, lot)
        self.assertEqual(lot, copy)


class JudgeTest(unittest.TestCase):

    LOT = ((yes(P), one(A, B)), (no(P),), (unlike(f(A), f(B)), no(YES)))
    TREE = ("case", 0, (
        ("case", 1, (("ring", 1, (((), 0, True),)),)),
        ("case", 2, (("ring", 1, (((0,), 0, True),)), ("ring", 1, ())))))

    def test_trees_by_hand(self):
        self.assertIs(is_closed(self.LOT, self.TREE), True)
        self.assertIs(is_closed(list(self.LOT), self.TREE), True)
        self.assertIs(is_decided(ORDER, self.LOT, Closed(self.TREE)), True)
        self.assertEqual(walk_tree(self.LOT, self.TREE), 3)
        self.assertEqual(named_by(self.TREE), (0, 1, 2))
        # Equations are numbered by themselves, and the order in which literals are taken counts.
        other = ("case", 1, (("case", 2, (
            ("case", 0, (("ring", 0, (((), 0, True),)), ("ring", 1, (((0,), 0, True),)))),
            ("ring", 1, ()))),))
        self.assertIs(is_closed(self.LOT, other), True)
        again = ("case", 1, (("case", 1, (self.TREE,)),))
        self.assertIs(is_closed(self.LOT, again), False)
        self.assertIs(is_closed(((),), ("case", 0, ())), True)
        self.assertEqual(named_by(other), (0, 1, 2))
        self.assertEqual(named_by(("case", 3, ())), (3,))

    def test_trees_with_one_thing_changed(self):
        for lot, tree in ((self.LOT, self.TREE), (pigeons(3, 2)[1], decide(*pigeons(3, 2)).tree)):
            changed = list(changes(tree))
            self.assertGreater(len(changed), 40)
            wrong = 0
            for value in changed:
                try:
                    walk_tree(lot, value)
                    expected = is_strict(value)
                except (AssertionError, KeyError, IndexError, TypeError, ValueError):
                    expected = False
                wrong += not expected
                self.assertIs(is_closed(lot, value), expected, value)
                if isinstance(value, tuple):
                    self.assertIs(is_decided(ORDER, lot, Closed(value)), expected)
            self.assertGreater(wrong, 40)
            # A list that an object is given is copied as a tuple.
            self.assertIs(is_decided(ORDER, lot, Closed(list(tree))), True)

    def test_clauses_changed(self):
        for index in range(len(self.LOT)):
            self.assertIs(is_closed(self.LOT[:index] + ((yes(Q),),) + self.LOT[index + 1:], self.TREE), False)
            self.assertIs(is_closed(self.LOT[:index], self.TREE), False)

    def test_rules(self):
        lot = ((yes(P), one(A, B)), (unlike(A, C),))
        for rules, expected in ((((P, YES),), True), (((B, A),), True), ((), False), (((A, B),), False),
                                (((P, YES), (C, A)), False), (((P, YES), (P, YES)), False), ([(P, YES)], True),
                                (((P, YES), (f(A), A)), True), (([P, YES],), False),
                                (((B, C),), False), (((P, Q), (Q, YES)), True), (((B, A), (f(B), A)), False)):
            self.assertIs(is_decided(ORDER, lot, Rules(rules)), expected, rules)
        self.assertIs(is_decided(ORDER, ((),), Rules(())), False)
        self.assertIs(is_decided(ORDER, (), Rules(())), True)
        told = decide(ORDER, lot)
        for index, (left, right) in enumerate(told.rules):
            turned = told.rules[:index] + ((right, left),) + told.rules[index + 1:]
            self.assertIs(is_decided(ORDER, lot, Rules(turned)), False)

    def test_other_values(self):
        lot = ((yes(P),), (no(Q),))
        barred = ((yes(P), yes(Q)), (no(P),), (no(Q),))
        for value in strange_values() + [Parted(((P, YES),)), self.TREE]:
            self.assertIs(is_decided(ORDER, lot, value), False)
            self.assertIs(is_decided(ORDER, barred, value), False)
            self.assertIs(is_decided(ORDER, lot, Rules(value)), False)
            self.assertIs(is_decided(ORDER, barred, Closed(value)), False)
            for tree in (value, ("case", value, ()), ("case", 0, value), ("case", 0, (value, value)), (value, 0, ()),
                         ("case", 0, (("ring", 0, ()), value)), ("case", 1, (("ring", value, ()),)),
                         ("case", 1, (("ring", 0, value),)), ("case", 1, (("ring", 0, (value,)),))):
                self.assertIs(is_closed(barred, tree), False)

    def test_deep_trees(self):
        lot = ((yes(P),), (no(P),))
        tree = ("case", 1, (("ring", 20000, (((), 5, True),)),))
        for _ in range(20000):
            tree = ("case", 0, (tree,))
        self.assertIs(is_closed(lot, tree), True)
        self.assertEqual(named_by(tree), (0, 1))
        self.assertIs(is_closed(lot[:1], tree), False)


def changes(tree):
    """A tree with one thing in it changed, in many ways."""
    yield (tree[0], tree[1], list(tree[2]))
    yield tree + (0,)
    yield tree[:2]
    yield list(tree)
    yield (tree[0], tree[1] + 1, tree[2])
    yield (tree[0], tree[1] - 1, tree[2])
    yield (tree[0], bool(tree[1]), tree[2])
    yield ("ring" if tree[0] == "case" else "case", tree[1], tree[2])
    yield (tree[0], tree[1], tree[2][1:])
    yield (tree[0], tree[1], tree[2] + tree[2][:1])
    if tree[0] == "case":
        for index, below in enumerate(tree[2]):
            for changed in changes(below):
                yield (tree[0], tree[1], tree[2][:index] + (changed,) + tree[2][index + 1:])
    else:
        for index, (path, number, way) in enumerate(tree[2]):
            for triple in ((path + (0,), number, way), (path[:-1], number, way), (path, number + 1, way),
                           (path, number - 1, way), (path, number, not way), (list(path), number, way),
                           (path, bool(number), way), (path, number, int(way))):
                yield (tree[0], tree[1], tree[2][:index] + (triple,) + tree[2][index + 1:])


def is_strict(tree):
    """Whether a tree that can be walked is made of tuples alone, of integers from 0 on, and bools."""
    def is_number(value):
        return isinstance(value, int) and not isinstance(value, bool) and value >= 0

    if not isinstance(tree, tuple) or not is_number(tree[1]) or not isinstance(tree[2], tuple):
        return False
    if tree[0] == "case":
        return all(is_strict(below) for below in tree[2])
    return all(isinstance(triple, tuple) and isinstance(triple[0], tuple) and is_number(triple[1])
               and isinstance(triple[2], bool) for triple in tree[2])


class FewTest(unittest.TestCase):

    def assert_few(self, order, lot):
        told = few(order, lot)
        if is_bearable(lot):
            self.assertIsNone(told)
            return False
        self.assertIsInstance(told, tuple)
        self.assertEqual(told, tuple(sorted(set(told))))
        self.assertFalse(is_bearable([lot[number] for number in told]))
        for left_out in told:
            self.assertTrue(is_bearable([lot[number] for number in told if number != left_out]))
        return True

    def test_by_hand(self):
        self.assertEqual(few(ORDER, ((yes(Q),), (yes(P),), (yes(Q),), (no(P),))), (1, 3))
        self.assertEqual(few(ORDER, ((yes(P),), (), (no(P),))), (1,))
        self.assertEqual(few(ORDER, [(unlike(A, B),), (one(A, B), one(A, C)), (unlike(f(A), f(C)),), (no(Q),)]), (0, 1, 2))
        self.assertIn(few(ORDER, ((yes(P),), (yes(P),), (no(P),))), ((0, 2), (1, 2)))
        self.assertIsNone(few(ORDER, ()))

    def test_drawn(self):
        draw = drawer(34)
        barred = 0
        for _ in range(250):
            barred += self.assert_few(ORDER, drawn_lot(draw, 12))
        self.assertGreater(barred, 60)

    def test_drawn_lots_of_truths(self):
        names = ["t" + str(index) for index in range(20)]
        order = Order((("a", 0, 1),), [(name, 0, 1) for name in names])
        for seed in range(4):
            draw = drawer(seed)
            lot = [tuple((draw.random() < 0.5, (name,), YES) for name in draw.sample(names, 3)) for _ in range(120)]
            told = few(order, lot)
            self.assertIsInstance(decide(order, [lot[number] for number in told]), Closed)
            for left_out in told:
                self.assertIsInstance(decide(order, [lot[number] for number in told if number != left_out]), Rules)

    def test_all_pigeons_are_needed(self):
        order, lot = pigeons(5, 4)
        self.assertEqual(few(order, lot), tuple(range(45)))


class ClassesTest(unittest.TestCase):

    def test_classes_keep_what_they_are_given(self):
        row = [[1], 2]
        for made, field in ((Rules(row), "rules"), (Closed(row), "tree")):
            self.assertEqual(getattr(made, field), ([1], 2))
            self.assertIs(getattr(made, field)[0], row[0])
            self.assertEqual(made, made)
        for value in strange_values():
            if not isinstance(value, list):
                self.assertIs(Rules(value).rules, value)
                self.assertIs(Closed(value).tree, value)
        self.assertNotEqual(Rules(()), Rules(()))
        self.assertNotEqual(Closed(()), Closed(()))


class LimitTest(unittest.TestCase):

    def assert_decided(self, order, lot):
        self.assertLessEqual(len(lot), 300)
        told = decide(order, lot)
        self.assertIs(is_decided(order, lot, told), True)
        return told

    def test_pigeons(self):
        for many in (4, 5, 6):
            self.assertIsInstance(self.assert_decided(*pigeons(many, many - 1)), Closed)
            self.assertIsInstance(self.assert_decided(*pigeons(many, many)), Rules)

    def test_drawn_lots_of_truths(self):
        names = ["t" + str(index) for index in range(45)]
        order = Order((("a", 0, 1),), [(name, 0, 1) for name in names])
        for seed in range(3):
            draw = drawer(seed)
            lot = [tuple((draw.random() < 0.5, (name,), YES) for name in draw.sample(names, 3)) for _ in range(300)]
            self.assertIsInstance(self.assert_decided(order, lot), Closed)
            self.assertIsInstance(self.assert_decided(order, lot[:100]), Rules)

    def test_drawn_lots_of_things(self):
        order = Order([("c" + str(index), 0, 1) for index in range(6)] + [("f", 1, 2), ("g", 2, 1)], (("p", 1, 1),))
        pairs = tuple((name, arity) for name, arity, _ in order.things)
        counted = {Rules: 0, Closed: 0}
        for seed in range(8):
            draw = drawer(seed)
            lot = []
            for _ in range(300):
                clause = []
                for _ in range(draw.choice((1, 2, 3, 4)) if seed % 2 else 4):
                    left, right = (drawn_term(draw, pairs, 0, draw.choice((1, 1, 2, 3, 20))) for _ in range(2))
                    clause.append((draw.random() < (0.5 if seed % 2 else 0.3), left, right))
                lot.append(tuple(clause))
            counted[self.assert_decided(order, lot).__class__] += 1
        self.assertGreater(min(counted.values()), 1)

    def test_one_long_way_down(self):
        names = ["n" + str(index) for index in range(299)]
        order = Order([(name, 0, 1) for name in names], ())
        lot = [(one((low,), (high,)),) for low, high in zip(names, names[1:])]
        self.assertIsInstance(self.assert_decided(order, lot), Rules)
        told = self.assert_decided(order, lot + [(unlike((names[0],), (names[-1],)),)])
        self.assertEqual(named_by(told.tree), tuple(range(299)))
        self.assertEqual(few(order, lot + [(unlike((names[0],), (names[-1],)),)]), tuple(range(299)))
        twos = [(one((low,), (high,)), one((low,), ("n0",))) for low, high in zip(names, names[1:])]
        self.assertIsInstance(self.assert_decided(order, twos), Rules)


if __name__ == "__main__":
    unittest.main()
