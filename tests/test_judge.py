"""Points [54] to [59]: the judge of refutations and saturations, and the walk down to the ground."""

import unittest

from downtoground.errors import TooGreat
from downtoground.ground import Closed, decide
from downtoground.judge import ground_lines, grounded, is_refutation, is_saturation
from downtoground.loop import Loop, Refuted, Saturated, settle
from downtoground.needless import paper_for
from downtoground.orders import Order
from downtoground.steps import all_steps, conclusion_of
from downtoground.texts import clause_of
from tests.calculus import SMALL, WIDE, clause_variables, is_just, needed_steps, plain, put_all
from tests.helpers import drawer, strange_values
from tests.loops import are_lines, drawn_rows, is_line, needs, walk
from tests.reckoning import is_bearable
from tests.test_papers import Judge
from tests.test_settle import KNOWN, question

A, B = ("a",), ("b",)


def clauses(*texts):
    return tuple(clause_of(text) for text in texts)


def refutations():
    for kind, texts in KNOWN:
        if kind is Refuted:
            order, row = question(texts)
            yield order, row, settle(order, row, 60).lines
    draw = drawer(55)
    for order in (SMALL, WIDE):
        for row in drawn_rows(draw, order, 60):
            told = settle(order, row, 15)
            if isinstance(told, Refuted):
                yield order, row, told.lines


def saturations():
    for kind, texts in KNOWN:
        if kind is Saturated:
            order, row = question(texts)
            told = settle(order, row, 60)
            yield order, row, (told.lot, told.inputs, told.steps)
    draw = drawer(57)
    for order in (SMALL, WIDE):
        for row in drawn_rows(draw, order, 70):
            told = settle(order, row, 15)
            if isinstance(told, Saturated):
                yield order, row, (told.lot, told.inputs, told.steps)


def judged(row, lines):
    """Whether any value is a refutation, by the words of [55]."""
    if type(lines) is not tuple or not lines:
        return False
    ahead = []
    for line in lines:
        if type(line) is not tuple or len(line) != 2 or type(line[0]) is not tuple or not line[0]:
            return False
        step, clause = line
        if is_just(step[0], "input"):
            if len(step) != 2 or type(step[1]) is not int or not 0 <= step[1] < len(row):
                return False
            if not is_just(clause, plain(row[step[1]])):
                return False
        elif step[0].__class__ is not str or not is_line(row, ahead, (step, clause)) or not is_clause(clause):
            return False
        ahead.append(clause)
    return lines[-1][1] == ()


def is_clause(value):
    """Whether a value that is equal to a clause is made of just what clauses are."""
    def is_term(term):
        return type(term) is int or type(term) is tuple and type(term[0]) is str and all(map(is_term, term[1:]))
    return type(value) is tuple and all(type(sign) is bool and is_term(left) and is_term(right)
                                        for sign, left, right in value)


def changed_values(draw, value):
    """Values made from a tuple with one thing changed, at a place that is drawn."""
    path = []
    part = value
    while isinstance(part, tuple) and part and (not path or draw.random() < 0.8):
        path.append(draw.randrange(len(part)))
        part = part[path[-1]]
    others = [None, True, False, -1, 0, 1, 2, 5, 99, 0.0, "0", "a", "input", (), (0,), A, [], [part], (part,), part]
    if isinstance(part, tuple):
        others += [list(part), part[::-1], part[:-1], part + part[-1:], part[1:]]
    elif isinstance(part, int):
        others += [part + 1, part - 1, bool(part), float(part), not part]
    elif isinstance(part, str):
        others += [part + "x", part[:-1], part.upper(), part.encode()]
    return [with_item(value, path, other) for other in others]


def with_item(value, path, new):
    if not path:
        return new
    return value[:path[0]] + (with_item(value[path[0]], path[1:], new),) + value[path[0] + 1:]


class RefutationTest(unittest.TestCase):

    def test_right_ones(self):
        many = 0
        for _, row, lines in refutations():
            self.assertIs(is_refutation(row, lines), True)
            self.assertIs(is_refutation(list(row), lines), True)
            self.assertTrue(judged(row, lines))
            # More clauses behind the others leave it one.
            self.assertIs(is_refutation(tuple(row) + clauses("q", "X0 = X1"), lines), True)
            many += 1
        self.assertGreater(many, 40)

    def test_each_with_one_thing_changed(self):
        draw = drawer(56)
        wrong = 0
        for _, row, lines in refutations():
            for _ in range(8):
                for value in changed_values(draw, lines):
                    expected = judged(row, value)
                    self.assertIs(is_refutation(row, value), expected, (row, value))
                    wrong += not expected
        self.assertGreater(wrong, 3000)

    def test_lines_left_out_doubled_and_more(self):
        draw = drawer(58)
        right = []
        for _, row, lines in refutations():
            index, other = draw.randrange(len(lines)), draw.randrange(len(lines))
            more = (("input", 0), plain(row[0]))
            for value in (lines[:index] + lines[index + 1:], lines[:index] + lines[index:index + 1] + lines[index:], lines[:-1],
                          lines + lines[-1:], lines + (more,), (more,) + lines, lines[:index] + (more,) + lines[index:],
                          lines[1:], (), (lines[-1],), lines[::-1], [*lines], lines[:-1] + (list(lines[-1]),),
                          lines[:other] + (lines[index],) + lines[other + 1:], lines + ((lines[-1][0],),)):
                self.assertIs(is_refutation(row, value), judged(row, value), (row, value))
                right.append(judged(row, value))
            self.assertIs(is_refutation(row[:-1], lines), judged(row[:-1], lines))
            self.assertIs(is_refutation(row[::-1], lines), judged(row[::-1], lines))
        self.assertGreater(right.count(True), 40)
        self.assertGreater(right.count(False), 300)

    def test_by_hand(self):
        row = clauses("p(X7) | p(X3)", "not p(a)")
        first, second = (("input", 0), clause_of("p(X0) | p(X1)")), (("input", 1), clause_of("not p(a)"))
        lines = (first, second)
        for step in (("factored", 0, 0, 0, 1, 0), ("resolved", 2, 0), ("put in", 3, 0, 0, 1, 0, 0, ()), ("resolved", 4, 0)):
            self.assertIs(is_refutation(row, lines), False)
            lines += ((step, conclusion_of([clause for _, clause in lines], step)),)
        self.assertEqual(lines[-1][1], ())
        self.assertIs(is_refutation(row, lines), True)
        self.assertIs(is_refutation(row, ((first[0], clause_of("p(X7) | p(X3)")),) + lines[1:]), False)
        self.assertIs(is_refutation(((),), ((("input", 0), ()),)), True)
        self.assertIs(is_refutation(((),), ((("input", 0), ()), (("input", 0), ()))), True)
        self.assertIs(is_refutation((), ()), False)
        # A clause whose step has no conclusion is none.
        self.assertIs(is_refutation(clauses("a != b"), ((("input", 0), clause_of("a != b")), (("resolved", 0, 0), ()))), False)
        self.assertIs(is_refutation(clauses("a != b"), ((("input", 0), clause_of("a != b")), (("resolved", 0, 0), None))), False)

    def test_any_values(self):
        _, row, lines = next(iter(refutations()))
        for thing in strange_values():
            self.assertIs(is_refutation(row, thing), False)
            self.assertIs(is_refutation((), thing), False)
            self.assertIs(is_refutation(row, (thing,)), False)
            self.assertIs(is_refutation(row, ((("input", 0), thing),)), False)
            self.assertIs(is_refutation(((),), ((("input", thing), ()),)), type(thing) is int and thing == 0)
            for index in (0, 3, len(lines) - 1):
                self.assertIs(is_refutation(row, lines[:index] + (thing,) + lines[index + 1:]), False)
                step, clause = lines[index]
                self.assertIs(is_refutation(row, lines[:index] + ((thing, clause),) + lines[index + 1:]), False)
                if not is_just(thing, clause):
                    self.assertIs(is_refutation(row, lines[:index] + ((step, thing),) + lines[index + 1:]), False)


class GroundedTest(unittest.TestCase):
    """Fact V."""

    def test_the_walk_of_the_document(self):
        many = 0
        for order, row, lines in refutations():
            met, told = walk(order, row, lines)
            pairs = grounded(order, row, lines)
            self.assertIsInstance(pairs, tuple)
            self.assertEqual(list(pairs), sorted(met, key=lambda pair: pair[0]))
            self.assertEqual(list(ground_lines(order, row, lines)), told)
            self.assertEqual(grounded(order, list(row), list(lines)), pairs)
            many += len(told)
            lot = tuple(put_all(row[n], dict(filling)) for n, filling in pairs)
            for n, filling in pairs:
                self.assertEqual([variable for variable, _ in filling], sorted(clause_variables(row[n])))
            self.assertIsInstance(decide(order, lot), Closed)
            if len(lot) < 8:
                self.assertFalse(is_bearable(tuple(sorted(lot, key=len))))
            self.assert_ground_lines_follow(lot, told)
        self.assertGreater(many, 250)

    def assert_ground_lines_follow(self, lot, told):
        self.assertEqual(told[-1][1], ())
        for index, (step, clause) in enumerate(told):
            if step[0] == "input":
                self.assertIn(clause, lot)
            else:
                self.assertTrue(all(number < index for number in step[1]))
                above = tuple(told[number][1] for number in step[1])
                self.assertFalse(is_bearable(above + tuple(((not sign, left, right),) for sign, left, right in clause)))

    def test_by_hand(self):
        row = clauses("p(X7) | p(X3)", "not p(a)")
        told = settle(SMALL, row, 20).lines
        self.assertEqual(grounded(SMALL, row, told), ((0, ((3, A), (7, A))), (1, ())))
        lines = ground_lines(SMALL, row, told)
        self.assertEqual(lines[-1][1], ())
        self.assertIn((("input", 0, ((3, A), (7, A))), clause_of("p(a) | p(a)")), lines)
        self.assertEqual(grounded(SMALL, ((),), ((("input", 0), ()),)), ((0, ()),))
        self.assertEqual(ground_lines(SMALL, ((),), ((("input", 0), ()),)), ((("input", 0, ()), ()),))

    def test_of_variables_that_have_gone(self):
        order = Order((("b", 0, 2), ("f", 1, 1), ("a", 0, 1)), ())
        row = clauses("X4 != X2 | X9 != X9")
        lines = ((("input", 0), clause_of("X0 != X1 | X2 != X2")), (("resolved", 0, 0), clause_of("X0 != X0")),
                 (("resolved", 1, 0), ()))
        self.assertIs(is_refutation(row, lines), True)
        self.assertEqual(grounded(order, row, lines), ((0, ((2, A), (4, A), (9, A))),))
        self.assertEqual(ground_lines(order, row, lines)[1:], (
            (("follows", (0,)), clause_of("a != a")), (("follows", (1,)), ())))

    def test_one_line_for_both_places(self):
        order = Order((("a", 0, 1), ("b", 0, 1), ("c", 0, 1), ("d", 0, 1)), ())
        row = clauses("X0 = a", "b != c")
        lines = (row_line(row, 0), row_line(row, 1), (("put in", 0, 0, 0, 1, 0, 0, ()), clause_of("a != c")),
                 (("put in", 0, 0, 0, 2, 0, 1, ()), clause_of("a != a")), (("resolved", 3, 0), ()))
        self.assertIs(is_refutation(row, lines), True)
        self.assertEqual(grounded(order, row, lines), ((0, ((0, ("c",)),)), (0, ((0, B),)), (1, ())))
        row = clauses("q", "q != yes")
        lines = (row_line(row, 0), (("put in", 0, 0, 0, 0, 0, 0, ()), clause_of("yes = yes")), row_line(row, 1),
                 (("put in", 0, 0, 0, 2, 0, 0, ()), clause_of("yes != yes")), (("resolved", 3, 0), ()))
        self.assertIs(is_refutation(row, lines), True)
        self.assertEqual(ground_lines(SMALL, row, lines), (
            (("input", 0, ()), row[0]), (("input", 1, ()), row[1]), (("follows", (0, 1)), clause_of("yes != yes")),
            (("follows", (2,)), ())))


    def test_one_clause_as_two_lines(self):
        row = clauses("q", "q != yes | q != yes")
        lines = (row_line(row, 0), row_line(row, 0), row_line(row, 1))
        for step in (("put in", 0, 0, 0, 2, 0, 0, ()), ("resolved", 3, 1), ("put in", 1, 0, 0, 4, 0, 0, ()), ("resolved", 5, 0)):
            lines += ((step, conclusion_of([clause for _, clause in lines], step)),)
        self.assertIs(is_refutation(row, lines), True)
        self.assertEqual(grounded(SMALL, row, lines), ((0, ()), (1, ())))
        self.assertEqual([step for step, _ in ground_lines(SMALL, row, lines)], [
            ("input", 0, ()), ("input", 0, ()), ("input", 1, ()), ("follows", (1, 2)), ("follows", (3,)), ("follows", (0, 4)),
            ("follows", (5,))])


def row_line(row, n):
    return (("input", n), plain(row[n]))


def deep_refutation(shape, dull):
    """Clauses and a refutation whose walk asks for a line the oftener, the more levels are doubled.

    Each level tells p of its number from that of the next one, of f, and of g where it is doubled;
    dull not-equations in the last clause each take a line of their own.
    """
    row = []
    for level, doubled in enumerate(shape):
        row.append(clause_of(f"p{level}(X0) | not p{level + 1}(f(X0))" + f" | not p{level + 1}(g(X0))" * doubled))
    row.append(clause_of(f"p{len(shape)}(X0)"))
    row.append(clause_of("not p0(a)" + " | a != a" * dull))
    lines = [row_line(row, len(shape))]
    for level in reversed(range(len(shape))):
        lines.append(row_line(row, level))
        known, current = len(lines) - 2, len(lines) - 1
        for _ in range(1 + shape[level]):
            current = told(lines, ("put in", known, 0, 0, current, 1, 0, ()))
            current = told(lines, ("resolved", current, len(lines[current][1]) - 1))
    lines.append(row_line(row, len(row) - 1))
    current = told(lines, ("put in", len(lines) - 2, 0, 0, len(lines) - 1, 0, 0, ()))
    while lines[current][1]:
        current = told(lines, ("resolved", current, 0))
    truths = [(f"p{level}", 1, 1) for level in range(len(shape) + 1)]
    return Order((("a", 0, 1), ("f", 1, 1), ("g", 1, 1)), truths), tuple(row), tuple(lines)


def told(lines, step):
    lines.append((step, conclusion_of([clause for _, clause in lines], step)))
    return len(lines) - 1


class TooGreatTest(unittest.TestCase):

    def count(self, shape):
        """How many lines with fillings are asked, without dull ones: by the levels alone."""
        asked = 0
        many = 1
        for doubled in shape:
            asked += many * (2 * (1 + doubled) + 1)
            many *= 1 + doubled
        return asked + many + 3

    def test_just_where_more_are_asked(self):
        shapes = [tuple((number >> level) & 1 for level in range(12)) for number in range(1 << 12)]
        shape = max((shape for shape in shapes if self.count(shape) <= 2000), key=self.count)
        base = self.count(shape)
        order, row, lines = deep_refutation(shape, 0)
        self.assertEqual(len(ground_lines(order, row, lines)), base)
        self.assertEqual(len(walk(order, row, lines)[1]), base)
        for dull, right in ((2000 - base, True), (2001 - base, False), (2002 - base, False)):
            order, row, lines = deep_refutation(shape, dull)
            self.assertIs(is_refutation(row, lines), True)
            for function in (grounded, ground_lines):
                if right:
                    self.assertEqual(len(ground_lines(order, row, lines)), 2000)
                    self.assertIsInstance(function(order, row, lines), tuple)
                else:
                    with self.assertRaises(TooGreat) as caught:
                        function(order, row, lines)
                    self.assertEqual(caught.exception.most, 2000)

    def test_far_too_great(self):
        order, row, lines = deep_refutation((1,) * 9, 0)
        self.assertLessEqual(len(lines), 60)
        with self.assertRaises(TooGreat):
            grounded(order, row, lines)
        order, row, lines = deep_refutation((1,) * 6, 0)
        self.assertEqual(len(grounded(order, row, lines)), 2 ** 7 - 1 + 1)


class SaturationJudge:
    """The words of [57] on any values."""

    def __init__(self, order, row):
        self.order = order
        self.row = row

    def judge(self, told):
        if type(told) is not tuple or len(told) != 3 or not all(type(part) is tuple for part in told):
            return False
        lot, inputs, steps = told
        if not all(self.is_kept(clause) for clause in lot):
            return False
        return self.are_papers(self.row, lot, inputs, False) and self.are_papers(
            [clause for _, clause in needed_steps(self.order, lot)], lot, steps, True)

    def are_papers(self, row, lot, papers, strict):
        judge = Judge(self.order, lot, strict)
        return len(papers) == len(row) and all(judge.judge(clause, paper) for clause, paper in zip(row, papers))

    def is_kept(self, clause):
        if type(clause) is not tuple or not clause or not all(self.is_literal(literal) for literal in clause):
            return False
        return clause == plain(clause)

    def is_literal(self, value):
        if type(value) is not tuple or len(value) != 3 or type(value[0]) is not bool:
            return False
        kinds = [self.kind(side) for side in value[1:]]
        return kinds in (["thing", "thing"], ["yes", "yes"], ["atom", "yes"], ["yes", "atom"])

    def kind(self, value):
        if is_just(value, ("yes",)):
            return "yes"
        things = {name: arity for name, arity, _ in self.order.things}
        truths = {name: arity for name, arity, _ in self.order.truths}
        if type(value) is int:
            return "thing" if value >= 0 else None
        if type(value) is not tuple or not value or type(value[0]) is not str:
            return None
        arity = things.get(value[0], truths.get(value[0]))
        if arity != len(value) - 1 or not all(self.kind(part) == "thing" for part in value[1:]):
            return None
        return "thing" if value[0] in things else "atom"


class SaturationTest(unittest.TestCase):

    def test_right_ones(self):
        many = 0
        for order, row, told in saturations():
            self.assertIs(is_saturation(order, row, told), True)
            self.assertIs(is_saturation(order, list(row), told), True)
            self.assertTrue(SaturationJudge(order, row).judge(told))
            self.assertEqual(len(told[2]), len(all_steps(order, told[0])))
            many += 1
        self.assertGreater(many, 50)

    def test_each_with_one_thing_changed(self):
        draw = drawer(59)
        wrong = 0
        for order, row, told in saturations():
            judge = SaturationJudge(order, row)
            for _ in range(5):
                for value in changed_values(draw, told):
                    expected = judge.judge(value)
                    self.assertIs(is_saturation(order, row, value), expected, (row, value))
                    wrong += not expected
        self.assertGreater(wrong, 3000)

    def test_clauses_left_out_and_more(self):
        for order, row, told in saturations():
            lot, inputs, steps = told
            judge = SaturationJudge(order, row)
            for value in ((lot[1:], inputs, steps), (lot[:-1], inputs, steps), (lot + lot[:1], inputs, steps),
                          (lot + ((),), inputs, steps), (lot, inputs[1:], steps), (lot, inputs, steps[1:]),
                          (lot, inputs + inputs[:1], steps), (lot, inputs, steps + steps[:1]), (lot[::-1], inputs, steps),
                          (lot, inputs), told + ((),), (lot, steps, inputs), ((), inputs, steps), ((), (), ()),
                          list(told), (list(lot), inputs, steps), (lot, list(inputs), steps), (lot, inputs, list(steps)),
                          (lot, inputs, None), Saturated(*told)):
                self.assertIs(is_saturation(order, row, value), judge.judge(value), (row, value))
            more = tuple(row) + (plain(row[0]) if row else clause_of("[]"),)
            self.assertIs(is_saturation(order, more, told), False)

    def test_strict_papers_of_steps_and_others_of_clauses(self):
        order = Order((("c", 0, 1), ("b", 0, 2), ("f", 1, 1), ("a", 0, 2), ("g", 0, 9)), ())
        lot = clauses("f(a) = b", "b = c")

        def papers(row, strict):
            return tuple(paper_for(order, clause, lot, strict) for clause in row)

        conclusions = [clause for _, clause in all_steps(order, lot)]
        row = clauses("f(a) = c", "b = c")
        self.assertIsNone(paper_for(order, row[0], lot, True))
        self.assertIs(is_saturation(order, row, (lot, papers(row, False), papers(conclusions, True))), True)
        lot = clauses("f(a) = b", "b = c", "g = f(a)", "g = c")
        conclusions = [clause for _, clause in all_steps(order, lot)]
        self.assertIn(clause_of("f(a) = c"), conclusions)
        self.assertNotIn(None, papers(conclusions, False))
        self.assertIs(is_saturation(order, row, (lot, papers(row, False), papers(conclusions, False))), False)
        lot = clauses("f(a) = b", "b = c", "g = f(a)", "g = c", "f(a) = c")
        conclusions = [clause for _, clause in all_steps(order, lot)]
        self.assertIs(is_saturation(order, row, (lot, papers(row, False), papers(conclusions, True))), True)

    def test_clauses_that_are_none(self):
        for clause in (((True, 0, 0, 0),), ((True, 0),), ((1, 0, 0),), ((None, 0, 0),), ((True, 1, 0),), ((True, 0, 2),),
                       ((True, ("f", 0), ("p", 0)),), ((True, ("p", 0), ("p", 0)),), ((True, 0, ("yes",)),), ((True, ("yes",), 0),),
                       ((True, ("f", ("yes",)), 0),), ((True, ("f", ("p", 0)), 0),), ((True, ("p", ("q",)), ("yes",)),),
                       ((True, ("f",), ("a",)),), ((True, ("f", 0, 0), ("a",)),), ((True, ("a", 0), ("a",)),),
                       ((True, ("new",), ("a",)),), ((True, False, 0),), ((True, -1, -1),), ((True, 0.0, 0.0),), [], [()],
                       ((True, ["a"], ("a",)),), ([True, ("a",), ("a",)],), ((True, ("a",), ("a",)), None), (), None, "p",
                       ((False, ("yes", 0), ("yes",)),), ((True, (), ()),), ((True, (0,), (0,)),), ((True, ("p",), ("yes",)),)):
            for steps in ((), (("same", 0),), (("same", 0),) * 2):
                self.assertIs(is_saturation(SMALL, (), ((clause,), (), steps)), False, clause)
        for text in ("f(X0) != X0", "not p(X0) | q", "yes != q", "f(X0) = f(X1) | X2 != X2"):
            self.assertIs(is_saturation(SMALL, (), ((clause_of(text),), (), ())),
                          not needed_steps(SMALL, (clause_of(text),)), text)
        self.assertIs(is_saturation(SMALL, (), ((clause_of("not p(X0)"),), (), ())), True)

    def test_any_values(self):
        order, row = SMALL, clauses("p(a)", "not p(b)")
        told = settle(order, row, 10)
        told = (told.lot, told.inputs, told.steps)
        self.assertIs(is_saturation(order, row, told), True)
        for thing in strange_values():
            self.assertIs(is_saturation(order, row, thing), False)
            self.assertIs(is_saturation(order, (), ((thing,), (), ())), False)
            self.assertIs(is_saturation(order, (), (((thing,),), (), ())), False)
            # Even of p(X0) alone there is a step, that into itself.
            for side in (thing, ("f", thing), ("p", thing)):
                self.assertIs(is_saturation(order, (), ((((True, side, ("yes",)),),), (), ())), False)
            for index in range(3):
                value = told[:index] + (thing,) + told[index + 1:]
                if not is_just(value, told):
                    self.assertIs(is_saturation(order, row, value), False)

    def test_terms_without_measure(self):
        wide = 0
        for _ in range(300):
            wide = ("g", wide, wide)
        deep = A
        for _ in range(50000):
            deep = ("f", deep)
        for term in (wide, deep):
            for lot in (((True, term, A),), ((False, term, term),), ((True, ("r", term, A), ("yes",)),)):
                self.assertIs(is_saturation(WIDE, (), ((lot,), (), ())), False)
                self.assertIs(is_saturation(WIDE, (lot,), ((lot,), (("within", 0, (), (0,)),), ())), False)


class FactsTest(unittest.TestCase):

    def test_never_both(self):
        draw = drawer(60)
        swapped = Order(SMALL.things[::-1], SMALL.truths[::-1])
        heavy = Order((("f", 1, 3), ("b", 0, 2), ("a", 0, 1)), (("q", 0, 5), ("p", 1, 1)))
        both = []
        for row in drawn_rows(draw, SMALL, 120):
            kinds = {type(settle(order, row, 25)) for order in (SMALL, swapped, heavy)}
            self.assertFalse({Refuted, Saturated} <= kinds, row)
            both.append(kinds)
        self.assertGreater(len([kinds for kinds in both if Refuted in kinds]), 15)
        self.assertGreater(len([kinds for kinds in both if Saturated in kinds]), 40)

    def test_lines_of_loops_are_lines(self):
        self.assertTrue(are_lines(clauses("q"), Loop(SMALL, clauses("q")).lines))
        self.assertEqual(needs(("input", 0)), [])


if __name__ == "__main__":
    unittest.main()
