"""Points [43] to [47]: papers of needlessness, their judge, and what is behind them."""

import unittest

from downtoground.needless import is_paper, paper_for, told_behind
from downtoground.orders import Order
from downtoground.texts import clause_of
from tests.calculus import (SMALL, WIDE, clause_variables, drawn_clause, has_end, has_paper, is_just, is_within, led, plain,
                            put_all, things_light, ways)
from tests.helpers import compared_clauses, drawer, drawn_term, filled, strange_values
from tests.reckoning import is_bearable

A, B = ("a",), ("b",)


def clauses(*texts):
    return tuple(clause_of(text) for text in texts)


LOT = clauses("f(f(X0)) = X0", "p(X0) | not p(f(X0))", "b = a", "q", "X0 = X1 | p(f(X0))", "f(X0) = f(a)")


def instance_within(draw, order, clause, clause_of_lot):
    """A clause in which an instance of another one stands, some sides exchanged, behind or ahead of others."""
    table = {variable: drawn_term(draw, [(name, arity) for name, arity, _ in order.things], 3, draw.randint(1, 3))
             for variable in clause_variables(clause_of_lot)}
    found = list(clause)
    for sign, left, right in put_all(clause_of_lot, table):
        found.insert(draw.randint(0, len(found)), draw.choice(((sign, left, right), (sign, right, left))))
    return tuple(found)


def questions():
    """Orders, clauses and lots, drawn so that many have papers of all kinds."""
    draw = drawer(45)
    for order in (SMALL, WIDE):
        for _ in range(150):
            lot = tuple(drawn_clause(draw, order, draw.choice((1, 1, 1, 2, 3))) for _ in range(draw.randint(0, 4)))
            clause = drawn_clause(draw, order, 3, 3, 5)
            if lot and draw.random() < 0.4:
                clause = instance_within(draw, order, clause[:2], draw.choice(lot))[:4]
            if draw.random() < 0.3:
                clause = put_all(clause, {variable: variable * 3 + 2 for variable in clause_variables(clause)})
            yield draw, order, clause, lot
    for text in ("f(f(f(X0))) = X1 | b != f(b)", "p(f(b)) | q", "f(f(b)) = a | p(X0)", "not p(f(f(f(a)))) | p(b) | X0 != X1",
                 "f(f(X0)) != f(b)", "f(b) = f(f(b)) | yes = p(f(f(b)))"):
        yield draw, SMALL, clause_of(text), LOT


def right_papers(order, clause, lot, strict, deep=2):
    """Many right papers of a clause, of all kinds, one within another."""
    found = []
    for index, (sign, left, right) in enumerate(clause):
        if sign and left == right:
            found.append(("same", index))
        for other, literal in enumerate(clause):
            if literal[0] != sign and literal[1:] in ((left, right), (right, left)):
                found.append(("both", index, other))
    for n, pattern in enumerate(lot):
        if is_within(pattern, clause):
            told = paper_for(order, clause, [pattern], strict)
            if told[0] == "within":
                found.append(("within", n) + told[2:])
    if deep:
        for way in list(ways(order, clause, lot, strict))[:3]:
            n, side, table, a, t, place, _ = way
            laying = tuple(sorted(table.items()))
            for rest in right_papers(order, led(clause, way), lot, strict, deep - 1)[:3]:
                found.append(("led", n, side, laying, a, t, place, rest))
    return found


class PaperForTest(unittest.TestCase):

    def test_by_hand(self):
        for text, expected in (
                ("X3 = X3 | q", ("same", 0)), ("f(X1) = a | a != a | a != f(X1)", ("both", 0, 2)),
                ("not p(f(X7)) | a = a | p(X7)", ("same", 1)),
                ("not p(f(X7)) | f(a) = X1 | p(X7)", ("within", 1, ((0, 7),), (2, 0))),
                ("not p(f(f(f(X7)))) | p(X7)",
                 ("led", 0, 0, ((0, ("f", 7)),), 0, 0, (0,), ("within", 1, ((0, 7),), (1, 0)))),
                ("p(f(X9)) | f(f(a)) = X9", ("within", 4, ((0, 9), (1, ("f", ("f", A)))), (1, 0))),
                ("p(X0)", None), ("f(f(a)) = X5", None), ("not p(b)", None), ("X0 = X1", None), ("not q", None)):
            told = paper_for(SMALL, clause_of(text), LOT[:5], True)
            self.assertEqual(told, expected, text)
            if told is not None:
                self.assertIs(is_paper(SMALL, clause_of(text), LOT[:5], told, True), True)
        self.assertIsNone(paper_for(SMALL, (), LOT, False))
        self.assertEqual(paper_for(SMALL, (), [()], True), ("within", 0, (), ()))
        self.assertEqual(paper_for(SMALL, clause_of("q"), [()], False), ("within", 0, (), ()))
        self.assertIsNone(paper_for(SMALL, clause_of("q"), (), False))

    def test_variables_stand_for_no_truths(self):
        for text in ("p(a)", "not p(X0)", "q", "q != yes", "p(b) | q"):
            for lot in (clauses("X0 = X1"), clauses("X0 != X1"), clauses("X0 = a", "X0 = X1")):
                for strict in (True, False):
                    self.assertIsNone(paper_for(SMALL, clause_of(text), lot, strict), text)
        # Led on so, these would come to a = yes | a != yes.
        self.assertIsNone(paper_for(SMALL, clause_of("p(b) | not q"), clauses("X0 = a"), False))
        self.assertIsNone(paper_for(SMALL, clause_of("not p(b) | not q"), clauses("X0 = a", "a != X0"), True))
        self.assertIs(is_paper(SMALL, clause_of("q"), clauses("X0 = X1"),
                               ("within", 0, ((0, ("q",)), (1, ("yes",))), (0,)), False), False)
        self.assertIs(is_paper(SMALL, clause_of("not q | yes = yes"), clauses("X0 = a"),
                               ("led", 0, 0, ((0, ("q",)),), 0, 0, (), ("same", 1)), False), False)

    def test_sides_without_all_variables_do_not_lead_on(self):
        # The variables of the lot's clauses are none of the clause's own.
        for lot, text in ((("f(X0) = X1",), "not p(f(X1)) | p(X1)"), (("f(X0) = f(X1)",), "not p(f(f(X1))) | p(f(X1))"),
                          (("X0 = X1",), "not p(f(X1)) | p(X1)")):
            for strict in (True, False):
                self.assertIsNone(paper_for(SMALL, clause_of(text), clauses(*lot), strict), text)
        self.assertIsNotNone(paper_for(SMALL, clause_of("not p(f(X1)) | p(X1)"), clauses("f(X0) = X0"), True))

    def test_just_where_the_first_ways_come_to_one(self):
        told = []
        for _, order, clause, lot in questions():
            for strict in (True, False):
                paper = paper_for(order, clause, lot, strict)
                self.assertIs(paper is not None, has_paper(order, clause, lot, strict), (clause, lot, strict))
                if paper is not None:
                    self.assertIs(is_paper(order, clause, lot, paper, strict), True, (clause, lot, paper))
                    self.assertIs(is_paper(order, clause, list(lot), paper, False), True)
                told.append(paper and paper[0])
        for kind in ("same", "both", "within", "led", None):
            self.assertGreater(told.count(kind), 8, kind)

    def test_the_first_way_is_the_one_that_is_gone(self):
        # Of f(c) both equations lead on; only one of them leads to a clause of the lot.
        order = Order((("a", 0, 1), ("b", 0, 1), ("c", 0, 1), ("f", 1, 1)), (("p", 1, 1), ("q", 0, 1)))
        one, other, end = clauses("f(c) = a", "f(c) = b", "p(b)")
        clause = clause_of("p(f(c))")
        self.assertIsNone(paper_for(order, clause, (one, other, end), True))
        self.assertIsNotNone(paper_for(order, clause, (other, one, end), True))
        # Outer places come first, and the left one of two.
        self.assertIsNone(paper_for(order, clause_of("p(f(f(c)))"), clauses("c = a", "f(f(c)) = a", "p(f(f(a)))"), True))

    def test_strict_ways(self):
        order = Order((("a", 0, 1), ("b", 0, 1), ("f", 1, 1)), (("p", 1, 1),))
        for text, strict, lot, expected in (
                ("f(a) = a", True, ("f(X0) = b", "b = a"), False), ("f(a) = a", False, ("f(X0) = b", "b = a"), True),
                ("f(a) != a", True, ("f(X0) = b", "b != a"), True), ("f(a) = f(b)", True, ("f(X0) = b",), True),
                ("p(f(a)) | f(b) = a", True, ("f(a) = b", "p(b)"), True), ("f(f(a)) = a", True, ("f(a) = b", "f(b) = a"), True),
                ("f(b) = a", True, ("b = a", "f(a) = a"), True), ("b = f(a)", True, ("f(X0) = a", "b = a"), True),
                ("f(a) = b", True, ("f(X0) = X0", "b = a"), True), ("p(a)", True, ("p(X0)",), True),
                ("f(b) = a", False, ("f(X0) = X0", "b = a"), True), ("f(b) = a", True, ("f(X0) = X0", "b = a"), True),
                ("f(b) = a", True, ("f(X0) = X0",), False)):
            lot = clauses(*lot)
            paper = paper_for(order, clause_of(text), lot, strict)
            self.assertIs(has_paper(order, clause_of(text), lot, strict), expected, (text, strict))
            self.assertIs(paper is not None, expected, (text, strict))
        value = ("led", 0, 0, ((0, A),), 0, 0, (), ("within", 1, (), (0,)))
        self.assertIs(is_paper(order, clause_of("f(a) = a"), clauses("f(X0) = b", "b = a"), value, False), True)
        self.assertIs(is_paper(order, clause_of("f(a) = a"), clauses("f(X0) = b", "b = a"), value, True), False)

    def test_doubled_literals_and_unlike_places(self):
        lot = clauses("p(X0) | p(X1)")
        self.assertIsNone(paper_for(SMALL, clause_of("p(a) | q"), lot, False))
        self.assertEqual(paper_for(SMALL, clause_of("p(a) | q | p(a)"), lot, True)[0], "within")
        self.assertIsNone(paper_for(SMALL, clause_of("p(a)"), clauses("p(X0) | p(X0)"), True))
        many = clause_of(" | ".join(["q"] * 6))
        self.assertIsNone(paper_for(SMALL, clause_of(" | ".join(["q"] * 5 + ["p(a)"])), [many], True))
        self.assertIsNotNone(paper_for(SMALL, many, [clause_of("q | q | q | q")], True))


def changes(draw, paper):
    """Values made from a paper with one thing changed, however deep within it."""
    others = (None, True, False, -1, 0, 1, 2, 3, 7, 99, 0.0, "0", "same", "led", (), (0,), (1,), (0, 0), ((0, A),), [], [0], A,
              ("same", 0), ("f", 0))
    found = [list(paper), [paper], (paper,), paper[:-1], paper + (0,), paper[::-1], paper[0], paper[1:]]

    def deep(value, wrap):
        for other in draw.sample(others, 6) + ([list(value)] if isinstance(value, tuple) else []):
            found.append(wrap(other))
        if isinstance(value, tuple):
            found.append(wrap(value[::-1]))
            found.append(wrap(value[:-1]))
            found.append(wrap(value + value[-1:]))
            for index, item in enumerate(value):
                deep(item, lambda new, value=value, index=index: wrap(value[:index] + (new,) + value[index + 1:]))
        elif isinstance(value, int):
            found.append(wrap(value + 1))
            found.append(wrap(bool(value)))
            found.append(wrap(float(value)))

    for index, item in enumerate(paper):
        deep(item, lambda new, index=index: paper[:index] + (new,) + paper[index + 1:])
    return found


class Judge:
    """The words of [43] on any values, with checks one after another."""

    def __init__(self, order, lot, strict):
        self.order = order
        self.lot = lot
        self.strict = strict

    def judge(self, clause, paper):
        if type(paper) is not tuple or not paper or type(paper[0]) is not str:
            return False
        kind = getattr(self, "judge_" + paper[0], None)
        lengths = {"same": 2, "both": 3, "within": 4, "led": 8}
        return kind is not None and lengths.get(paper[0]) == len(paper) and kind(clause, *paper[1:])

    def is_index(self, value, many):
        return type(value) is int and 0 <= value < many

    def judge_same(self, clause, index):
        return self.is_index(index, len(clause)) and clause[index][0] and clause[index][1] == clause[index][2]

    def judge_both(self, clause, one, other):
        if not self.is_index(one, len(clause)) or not self.is_index(other, len(clause)):
            return False
        return clause[one][0] != clause[other][0] and sorted(map(repr, clause[one][1:])) == sorted(map(repr, clause[other][1:]))

    def laid(self, n, laying, clause):
        """The dict of a laying, or None."""
        names = sorted(clause_variables(self.lot[n]))
        if type(laying) is not tuple or len(laying) != len(names):
            return None
        if not all(type(pair) is tuple and len(pair) == 2 and is_just(pair[0], name) for pair, name in zip(laying, names)):
            return None
        if not all(self.is_thing(term, clause_variables(clause)) for _, term in laying):
            return None
        return dict(laying)

    def is_thing(self, value, names):
        if type(value) is int:
            return value in names
        arities = {name: arity for name, arity, _ in self.order.things}
        if type(value) is not tuple or not value or type(value[0]) is not str or arities.get(value[0]) != len(value) - 1:
            return False
        return all(self.is_thing(part, names) for part in value[1:])

    def judge_within(self, clause, n, laying, places):
        table = self.laid(n, laying, clause) if self.is_index(n, len(self.lot)) else None
        if table is None or type(places) is not tuple or len(places) != len(self.lot[n]):
            return False
        if not all(self.is_index(place, len(clause)) for place in places) or len(set(places)) < len(places):
            return False
        told = put_all(self.lot[n], table)
        return all(literal in (clause[place], clause[place][:1] + clause[place][:0:-1]) for literal, place in zip(told, places))

    def judge_led(self, clause, n, side, laying, a, t, place, rest):
        if not all(self.is_index(value, many) for value, many in
                   ((n, len(self.lot)), (side, 2), (a, len(clause)), (t, 2))):
            return False
        for way in ways(self.order, clause, self.lot, self.strict):
            if way[:2] == (n, side) and way[3:5] == (a, t) and is_just(place, way[5]):
                if is_just(laying, tuple(sorted(way[2].items()))):
                    return self.judge(led(clause, way), rest)
        return False


class IsPaperTest(unittest.TestCase):

    def test_right_papers_and_each_with_one_thing_changed(self):
        kinds = []
        wrong = 0
        for draw, order, clause, lot in questions():
            for strict in (True, False):
                judge = Judge(order, lot, strict)
                papers = right_papers(order, clause, lot, strict)
                for paper in draw.sample(papers, min(4, len(papers))):
                    self.assertIs(is_paper(order, clause, lot, paper, strict), True, (clause, lot, paper))
                    self.assertTrue(judge.judge(clause, paper), (clause, lot, paper))
                    kinds.append(paper[0] + (paper[7][0] if paper[0] == "led" else ""))
                    for value in changes(draw, paper):
                        expected = judge.judge(clause, value)
                        self.assertIs(is_paper(order, clause, lot, value, strict), bool(expected), (clause, lot, value))
                        wrong += not expected
        for kind in ("same", "both", "within", "ledsame", "ledwithin", "ledled"):
            self.assertGreater(kinds.count(kind), 3, kind)
        self.assertGreater(wrong, 5000)

    def test_papers_that_are_not_strict(self):
        for _, order, clause, lot in questions():
            for paper in right_papers(order, clause, lot, False)[:6]:
                self.assertIs(is_paper(order, clause, lot, paper, True), Judge(order, lot, True).judge(clause, paper))

    def test_any_values(self):
        clause, lot = clause_of("p(f(b)) | q"), clauses("f(X0) = X0", "b = a", "p(X0)", "p(X0) | X1 = X2")
        papers = (("within", 2, ((0, ("f", B)),), (0,)), ("both", 0, 1), ("same", 0),
                  ("led", 0, 0, ((0, B),), 0, 0, (0,), ("within", 2, ((0, B),), (0,))))
        for thing in strange_values():
            for strict in (True, False):
                self.assertIs(is_paper(SMALL, clause, lot, thing, strict), False)
                self.assertIs(is_paper(SMALL, (), (), thing, strict), False)
            for paper in papers:
                for index in range(len(paper)):
                    value = paper[:index] + (thing,) + paper[index + 1:]
                    self.assertIs(is_paper(SMALL, clause, lot, value, False), Judge(SMALL, lot, False).judge(clause, paper)
                                  if is_just(value, paper) else False if index == 0 else
                                  is_paper(SMALL, clause, lot, value, False))
            for laying in (thing, (thing,), ((0, thing),), ((thing, B),)):
                for value in (("within", 2, laying, (0,)), ("led", 0, 0, laying, 0, 0, (0,), papers[0])):
                    self.assertIs(is_paper(SMALL, clause, lot, value, False), False)

    def test_terms_without_measure(self):
        wide = 0
        for _ in range(300):
            wide = ("g", wide, wide)
        deep = A
        for _ in range(50000):
            deep = ("f", deep)
        lot = clauses("X0 = X1", "f(X0) = X0")
        for term in (wide, deep):
            value = ("within", 0, ((0, term), (1, term)), (0,))
            self.assertIs(is_paper(WIDE, clause_of("f(a) = b"), lot, value, True), False)
            value = ("led", 1, 0, ((0, term),), 0, 0, (), ("same", 0))
            self.assertIs(is_paper(WIDE, clause_of("f(a) = b"), lot, value, True), False)

    def test_signs_and_kinds(self):
        lot = clauses("f(X0) != X0", "f(X0) = X0 | q", "f(X0) = X1", "X0 = X1")
        rest = ("same", 0)
        for n in (0, 1, 2, 3):
            for side in (0, 1):
                for laying in (((0, B),), ((0, B), (1, B)), ((0, ("f", B)), (1, B))):
                    value = ("led", n, side, laying, 0, 0, (), rest)
                    self.assertIs(is_paper(SMALL, clause_of("f(b) = b"), lot, value, False), False)


class ToldBehindTest(unittest.TestCase):
    """Fact U."""

    def walk(self, paper, filling):
        told = []
        table = dict(filling)
        while paper[0] in ("led", "within"):
            laying = paper[3] if paper[0] == "led" else paper[2]
            pair = (paper[1], tuple((variable, filled(term, table)) for variable, term in laying))
            if pair not in told:
                told.append(pair)
            if paper[0] == "within":
                break
            paper = paper[7]
        return tuple(told)

    def test_drawn(self):
        many = 0
        for draw, order, clause, lot in questions():
            things = things_light(order, 3)
            for strict in (True, False):
                for paper in right_papers(order, clause, lot, strict)[:5]:
                    filling = tuple((variable, draw.choice(things)) for variable in sorted(clause_variables(clause)))
                    told = told_behind(order, clause, lot, paper, filling)
                    self.assertEqual(told, self.walk(paper, filling))
                    self.assertEqual(told_behind(order, clause, lot, paper, list(filling)), told)
                    whole = put_all(clause, dict(filling))
                    instances = []
                    for n, own in told:
                        self.assertEqual([variable for variable, _ in own], sorted(clause_variables(lot[n])))
                        instances.append(put_all(lot[n], dict(own)))
                        if strict:
                            self.assertIn(compared_clauses(order, whole, instances[-1]), ("above", "alike"))
                    negated = tuple(((not sign, left, right),) for sign, left, right in whole)
                    self.assertFalse(is_bearable(tuple(instances) + negated), (clause, lot, paper))
                    many += len(told)
        self.assertGreater(many, 300)

    def test_no_pair_twice(self):
        paper = ("led", 0, 0, ((0, 4),), 0, 0, (), ("led", 0, 0, ((0, 4),), 0, 1, (), ("same", 0)))
        clause = clause_of("f(X4) = f(X4)")
        lot = clauses("f(X0) = X0")
        self.assertIs(is_paper(SMALL, clause, lot, paper, False), True)
        self.assertEqual(told_behind(SMALL, clause, lot, paper, ((4, B),)), ((0, ((0, B),)),))
        self.assertEqual(told_behind(SMALL, clause, lot, ("same", 0), ((4, B),)), ())

    def test_ends(self):
        self.assertTrue(has_end(clause_of("q | a = a"), ()))
        self.assertFalse(has_end(clause_of("q | a = b"), ()))
        self.assertEqual(plain(clause_of("f(X4) = X2")), clause_of("f(X0) = X1"))


if __name__ == "__main__":
    unittest.main()
