"""Points [48] to [52]: lines, loops, and what becomes of them step by step."""

import unittest

from downtoground.loop import Loop, cut, lines_above, open_input, open_steps, reopened, stands, worked
from downtoground.orders import Order
from downtoground.steps import all_steps
from downtoground.texts import clause_of
from tests.calculus import SMALL, WIDE, conclusion, has_paper, plain, ways
from tests.helpers import drawer, strange_values
from tests.loops import are_lines, drawn_rows, needs

GROUP = Order((("e", 0, 1), ("a", 0, 1), ("i", 1, 1), ("f", 2, 1)), (("p", 1, 1),))


def clauses(*texts):
    return tuple(clause_of(text) for text in texts)


THEORIES = (
    (GROUP, clauses("f(e, X0) = X0", "f(i(X0), X0) = e", "f(f(X3, X1), X2) = f(X3, f(X1, X2))", "f(a, e) != a")),
    (GROUP, clauses("f(X0, X1) = f(X1, X0)", "f(X0, X0) = X0", "f(e, a) != e | p(X5)", "not p(i(a))")),
    (SMALL, clauses("p(a)", "not p(X0) | p(f(X0))", "not p(f(f(b))) | q", "a = b")),
    (SMALL, clauses("f(f(X0)) = X0", "f(f(f(X0))) = a", "a != b | p(X0)", "not p(b) | f(X0) = b")),
    (SMALL, clauses("p(X0) | p(X1) | q", "not q | X0 = a", "not p(a)", "yes != yes | a = a")),
    (SMALL, clauses("a = a", "q | not q", "p(b) | p(b)", "b != b | X2 = f(X2)")),
    (SMALL, ()), (SMALL, ((),)), (SMALL, clauses("q", "[]", "not q")))


def theories():
    draw = drawer(49)
    for order, row in THEORIES:
        yield order, row
    for order in (SMALL, WIDE):
        for row in drawn_rows(draw, order, 25):
            yield order, row


def clause_at(lines, index):
    return lines[index][1]


class BeginningTest(unittest.TestCase):

    def test_what_a_loop_is_made_with(self):
        for order, row in theories():
            loop = Loop(order, row)
            self.assertIs(loop.order, order)
            self.assertEqual(loop.clauses, row)
            self.assertEqual(Loop(order, list(row)).clauses, row)
            self.assertEqual(loop.lines, tuple((("input", n), plain(clause)) for n, clause in enumerate(row)))
            self.assertEqual((loop.waiting, loop.kept, loop.spent), (tuple(range(len(row))), (), 0))
            self.assertIs(stands(loop), True)
            self.assertNotEqual(loop, Loop(order, row))

    def test_plain_names(self):
        loop = Loop(SMALL, [clause_of("p(X7) | X3 = f(X7)")])
        self.assertEqual(loop.lines, ((("input", 0), clause_of("p(X0) | X1 = f(X0)")),))


class WorkedTest(unittest.TestCase):

    def assert_kept_well(self, loop):
        self.assertEqual(list(loop.waiting), sorted(set(loop.waiting)))
        self.assertEqual(list(loop.kept), sorted(set(loop.kept)))
        self.assertFalse(set(loop.waiting) & set(loop.kept))
        self.assertTrue(all(0 <= index < len(loop.lines) for index in loop.waiting + loop.kept))
        for index in loop.kept:
            clause = clause_at(loop.lines, index)
            self.assertNotEqual(clause, ())
            for sign, left, right in clause:
                self.assertFalse(sign and left == right)
                self.assertNotIn((not sign, left, right), clause)
                self.assertNotIn((not sign, right, left), clause)
            others = [clause_at(loop.lines, other) for other in loop.kept if other != index]
            self.assertFalse(has_paper(loop.order, clause, others, True))

    def assert_worked(self, before, after):
        """What [51] tells of the Loop behind one line more."""
        self.assertIsInstance(after, Loop)
        self.assertIs(after.order, before.order)
        self.assertEqual((after.clauses, after.spent), (before.clauses, before.spent + 1))
        for row in (after.lines, after.waiting, after.kept):
            self.assertIsInstance(row, tuple)
        taken = [index for index in before.waiting if index not in after.waiting]
        self.assertEqual(len(taken), 1)
        if before.spent % 5 == 4:
            self.assertEqual(taken[0], before.waiting[0])
        lines, last = cut(before.order, before.lines, taken[0], before.kept)
        self.assertEqual(after.lines[:len(lines)], lines)
        self.assertTrue(are_lines(after.clauses, after.lines))
        waiting = [index for index in before.waiting if index != taken[0]]
        clause = clause_at(lines, last)
        order = before.order
        if has_paper(order, clause, [clause_at(lines, index) for index in before.kept], True):
            self.assertEqual((after.lines, after.waiting, after.kept), (lines, tuple(waiting), before.kept))
            return
        keeping = [] if clause == () else [last]
        for index in before.kept:
            if not has_paper(order, clause_at(lines, index), [clause], True):
                led_on = next(ways(order, clause_at(lines, index), [clause], True), None) is not None
                (waiting if led_on else keeping).append(index)
        self.assertEqual(after.kept, tuple(sorted(keeping)))
        new = list(range(len(lines), len(after.lines)))
        self.assertEqual(after.waiting, tuple(sorted(waiting + new)))
        self.assert_conclusions(after, len(lines), last if keeping else None)

    def assert_conclusions(self, after, many, last):
        """Each needed conclusion with the line that is kept now is a line or has a strict paper; none twice."""
        lot = [clause_at(after.lines, index) for index in after.kept]
        known = [clause for _, clause in after.lines]
        steps = {}
        for step, clause in all_steps(after.order, lot):
            moved = step[:1] + (after.kept[step[1]],) + step[2:]
            if step[0] == "put in":
                moved = moved[:4] + (after.kept[step[4]],) + moved[5:]
            if last in needs(moved):
                steps[moved] = clause
                self.assertTrue(clause in known or has_paper(after.order, clause, lot, True))
        for index in range(many, len(after.lines)):
            step, clause = after.lines[index]
            self.assertEqual(steps[step], clause)
            self.assertNotIn(clause, known[:index])
            self.assertFalse(has_paper(after.order, clause, lot, True))

    def test_up_to_ten_times_and_reopened_where_nothing_waits(self):
        reopened_ones = 0
        for order, row in theories():
            loop = Loop(order, row)
            for _ in range(10):
                before = (loop.lines, loop.waiting, loop.kept, loop.spent)
                if loop.waiting:
                    after = worked(loop)
                    self.assert_worked(loop, after)
                else:
                    self.assertIs(worked(loop), loop)
                    after = reopened(loop)
                    reopened_ones += 1
                self.assertEqual((loop.lines, loop.waiting, loop.kept, loop.spent), before)
                self.assert_kept_well(after)
                self.assertIs(stands(after), True)
                self.assert_open(after)
                loop = after
        self.assertGreater(reopened_ones, 50)

    def assert_open(self, loop):
        lot = [clause_at(loop.lines, index) for index in loop.kept]
        steps = tuple(pair for pair in all_steps(loop.order, lot) if not has_paper(loop.order, pair[1], lot, True))
        inputs = tuple(n for n, clause in enumerate(loop.clauses) if not has_paper(loop.order, clause, lot, False))
        self.assertEqual(open_steps(loop), steps)
        self.assertEqual(open_input(loop), inputs)
        self.assert_reopened(loop, steps, inputs)

    def assert_reopened(self, loop, steps, inputs):
        lines = list(loop.lines)
        waiting = set(loop.waiting) | set(inputs)
        for step, clause in steps:
            if clause not in [other for _, other in lines]:
                moved = step[:1] + (loop.kept[step[1]],) + step[2:]
                lines.append((moved[:4] + (loop.kept[step[4]],) + moved[5:] if step[0] == "put in" else moved, clause))
            waiting.add([other for _, other in lines].index(clause))
        told = reopened(loop)
        self.assertIsInstance(told, Loop)
        self.assertEqual(told.lines, tuple(lines))
        self.assertEqual(told.waiting, tuple(sorted(waiting)))
        self.assertEqual((told.kept, told.spent, told.clauses), (loop.kept, loop.spent, loop.clauses))
        self.assertIs(stands(told), True)

    def test_open_things_of_loops_that_skip_lines(self):
        # Such loops stand, though worked does not come to them.
        draw = drawer(50)
        opened = 0
        for order, row in theories():
            loop = Loop(order, row)
            for index in range(len(row)):
                others = [clause_at(loop.lines, other) for other in loop.kept]
                clause = clause_at(loop.lines, index)
                kept_too = [clause_at(loop.lines, other) for other in loop.kept if has_paper(
                    order, clause_at(loop.lines, other), others + [clause], True)]
                if clause != () and draw.random() < 0.7 and not has_paper(order, clause, others, True) and not kept_too:
                    loop.kept += (index,)
            loop.waiting = ()
            if stands(loop):
                self.assert_open(loop)
                opened += len(open_steps(loop)) + len(open_input(loop))
        self.assertGreater(opened, 60)

    def test_the_empty_clause_is_not_kept(self):
        loop = Loop(SMALL, clauses("[]"))
        after = worked(loop)
        self.assertEqual((after.kept, after.waiting, after.lines, after.spent), ((), (), loop.lines, 1))
        loop = worked(worked(Loop(SMALL, clauses("q", "[]"))))
        self.assertNotIn(1, loop.kept + loop.waiting)

    def test_alike_clauses_are_kept_once(self):
        loop = Loop(SMALL, clauses("p(X0)", "p(X5)", "p(a)"))
        for _ in range(3):
            loop = worked(loop)
        self.assertEqual(len(loop.kept), 1)
        self.assertEqual((loop.waiting, loop.lines[3:]), ((), ()))


class CutTest(unittest.TestCase):

    def assert_cut(self, order, lines, index, kept):
        told = cut(order, lines, index, kept)
        self.assertEqual(cut(order, list(lines), index, list(kept)), told)
        self.assertIsInstance(told, tuple)
        longer, last = told
        self.assertIsInstance(longer, tuple)
        self.assertEqual(longer[:len(lines)], tuple(lines))
        self.assertEqual(last, index if len(longer) == len(lines) else len(longer) - 1)
        before = index
        for number in range(len(lines), len(longer)):
            step, clause = longer[number]
            row = [other for _, other in longer[:number]]
            self.assertEqual(conclusion(row, step), clause)
            if step[0] == "resolved":
                self.assertEqual(step[1], before)
                self.assertEqual(row[before][step[2]][1], row[before][step[2]][2])
            else:
                word, i, a, s, j, b, t, place = step
                self.assertEqual((word, a, j), ("put in", 0, before))
                self.assertIn(i, kept)
                told = [way for way in ways(order, row[before], [row[i]], True) if way[1] == s and way[3:6] == (b, t, place)]
                self.assertEqual(len(told), 1)
            before = number
        end = clause_at(longer, last)
        self.assertFalse([literal for literal in end if not literal[0] and literal[1] == literal[2]])
        self.assertIsNone(next(ways(order, end, [clause_at(longer, number) for number in kept], True), None))
        return len(longer) - len(lines)

    def test_by_hand(self):
        lines = Loop(GROUP, clauses("f(e, X0) = X0", "f(f(e, e), e) != e | a != a | p(f(e, i(X4)))", "p(i(f(e, a)))")).lines
        longer, last = cut(GROUP, lines, 1, (0,))
        self.assertEqual(clause_at(longer, last), clause_of("p(i(X0))"))
        self.assertEqual(cut(GROUP, lines, 1, ()), (longer[:3] + ((("resolved", 1, 1), plain(clauses(
            "f(f(e, e), e) != e | p(f(e, i(X0)))")[0])),), 3))
        self.assertEqual(cut(GROUP, lines, 0, (0,)), (lines, 0))
        self.assertEqual(cut(GROUP, lines, 2, [0])[1], 3)

    def test_drawn(self):
        draw = drawer(51)
        many = 0
        for order, row in theories():
            lines = Loop(order, row).lines
            for index in range(len(lines)):
                for _ in range(2):
                    kept = tuple(other for other in range(len(lines)) if other != index and draw.random() < 0.7)
                    many += self.assert_cut(order, lines, index, kept)
        for text in ("f(f(e, a), f(e, i(e))) = f(e, f(e, e))", "i(f(i(a), a)) != f(e, X0) | f(X0, X1) != f(X0, X1)",
                     "X0 != X0 | X1 != X1 | a != a", "f(e, a) = f(e, a)", "p(f(f(f(a, i(a)), i(a)), a)) | not p(f(e, e))"):
            lines = Loop(GROUP, THEORIES[0][1][:3] + clauses(text)).lines
            many += self.assert_cut(GROUP, lines, 3, (0, 1, 2))
        self.assertGreater(many, 50)


class LinesAboveTest(unittest.TestCase):

    def test_by_hand(self):
        loop = Loop(SMALL, clauses("p(b)", "q", "not p(X0) | p(f(X0))"))
        lines = loop.lines + (
            (("put in", 0, 0, 0, 2, 0, 0, ()), clause_of("p(f(b)) | yes != yes")), (("resolved", 3, 1), clause_of("p(f(b))")),
            (("put in", 1, 0, 0, 1, 0, 0, ()), clause_of("yes = yes")),
            (("put in", 2, 1, 0, 2, 0, 0, ()), clause_of("not p(X0) | p(f(f(X0))) | yes != yes")))
        self.assertTrue(are_lines(loop.clauses, lines))
        self.assertEqual(lines_above(lines, 1), ((("input", 1), clause_of("q")),))
        self.assertEqual(lines_above(lines, 4), (
            lines[0], lines[2], (("put in", 0, 0, 0, 1, 0, 0, ()), clause_of("p(f(b)) | yes != yes")),
            (("resolved", 2, 1), clause_of("p(f(b))"))))
        self.assertEqual(lines_above(list(lines), 6), (lines[2], (("put in", 0, 1, 0, 0, 0, 0, ()), lines[6][1])))
        self.assertEqual(lines_above(lines, 5)[1][0], ("put in", 0, 0, 0, 0, 0, 0, ()))

    def test_of_worked_loops(self):
        for order, row in theories():
            loop = Loop(order, row)
            for _ in range(7):
                loop = worked(loop)
            for index in range(0, len(loop.lines), 5):
                told = lines_above(loop.lines, index)
                self.assertTrue(are_lines(loop.clauses, told))
                self.assertEqual(told[-1][1], loop.lines[index][1])
                needed = {index}
                for number in range(index, -1, -1):
                    if number in needed:
                        needed |= set(needs(loop.lines[number][0]))
                self.assertEqual([clause for _, clause in told], [loop.lines[number][1] for number in sorted(needed)])


class StandsTest(unittest.TestCase):

    def changed(self, loop, **attributes):
        new = Loop(loop.order, loop.clauses)
        for name in ("lines", "waiting", "kept", "spent"):
            setattr(new, name, attributes.get(name, getattr(loop, name)))
        return new

    def test_what_is_not_so(self):
        loop = Loop(SMALL, clauses("p(a)", "not p(X0) | p(f(X0))", "p(b)", "p(X0) | q", "a = a", "q | not q", "[]", "b = a"))
        self.assertIs(stands(self.changed(loop, waiting=(2,), kept=(0, 1))), True)
        for waiting, kept in (((2,), (1, 0)), ((2, 1), (0,)), ((0,), (0,)), ((1, 1), ()), ((), (0, 0)), ((), (8,)), ((-1,), ()),
                              ((), (4,)), ((), (5,)), ((), (6,)), ((True,), ()), ((), (0.0,)), ((), ("0",)), (None, ()),
                              ((), 3), ([0], ()), ((), [0])):
            self.assertIs(stands(self.changed(loop, waiting=waiting, kept=kept)), False, (waiting, kept))
        for kept in ((2, 3), (), (2, 7), (0, 1, 2, 3)):
            self.assertIs(stands(self.changed(loop, waiting=(), kept=kept)), True)
        for lines in (loop.lines[1:], loop.lines[:2], loop.lines + ((("resolved", 0, 0), ()),),
                      ((("input", 0), clause_of("p(b)")),), ((("input", 9), ()),), (loop.lines[0],) * 2, loop.lines[::-1],
                      ((loop.lines[0][1], loop.lines[0][0]),), list(loop.lines), (list(loop.lines[0]),)):
            right = lines in (loop.lines[:2], loop.lines[1:], (loop.lines[0],) * 2, loop.lines[::-1])
            self.assertIs(stands(self.changed(loop, lines=lines, waiting=(), kept=())), right, lines)

    def test_a_kept_one_with_a_strict_paper(self):
        loop = Loop(SMALL, clauses("p(X0)", "p(f(a)) | q", "f(b) = b", "not p(f(f(b)))", "f(f(X0)) = X0"))
        for kept, right in (((0, 1), False), ((0, 2), True), ((2, 3), True), ((2, 4), True), ((1, 2, 3), True),
                            ((0, 1, 2), False), ((3, 4), True), ((1, 4), True)):
            self.assertIs(stands(self.changed(loop, waiting=(), kept=kept)), right, kept)

    def test_any_values(self):
        loop = Loop(SMALL, clauses("p(a)"))
        for thing in strange_values():
            self.assertIs(stands(self.changed(loop, lines=thing, waiting=(), kept=())), thing == () if
                          isinstance(thing, tuple) and not thing else False)
            self.assertIs(stands(self.changed(loop, lines=(thing,), waiting=(), kept=())), False)
            if not isinstance(thing, (int, tuple)):
                self.assertIs(stands(self.changed(loop, waiting=(thing,))), False)
                self.assertIs(stands(self.changed(loop, kept=thing, waiting=())), False)


if __name__ == "__main__":
    unittest.main()
