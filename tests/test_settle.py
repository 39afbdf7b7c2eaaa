"""Point [53]: what settle tells."""

import unittest

from downtoground.errors import BadNumber
from downtoground.judge import is_refutation, is_saturation
from downtoground.loop import Loop, OutOfSteps, Refuted, Saturated, open_input, open_steps, reopened, settle, worked
from downtoground.sentences import clauses_of, order_with
from downtoground.texts import clause_of, order_of, sentence_of
from tests.calculus import SMALL, WIDE
from tests.helpers import drawer, strange_values
from tests.loops import drawn_rows

GROUP = ("all X: f(e, X) = X", "all X: f(i(X), X) = e", "all X Y Z: f(f(X, Y), Z) = f(X, f(Y, Z))")

# Each theory with what it is known to come to.
KNOWN = (
    (Refuted, GROUP + ("some X: f(X, e) != X",)), (Refuted, GROUP + ("some X: f(X, i(X)) != e",)),
    (Refuted, GROUP + ("some X: i(i(X)) != X",)),
    (Refuted, GROUP + ("all X: f(X, X) = e", "some X Y: f(X, Y) != f(Y, X)")),
    (Refuted, ("p", "not p")), (Refuted, ("p or q", "p or not q", "not p or q", "not p or not q")),
    (Refuted, ("all X: (man(X) then mortal(X))", "man(socrates)", "not mortal(socrates)")),
    (Refuted, ("some X: all Y: r(X, Y)", "not all Y: some X: r(X, Y)")),
    (Refuted, ("not some X: (d(X) then all Y: d(Y))",)), (Refuted, ("some X: all Y: (s(Y, X) same not s(Y, Y))",)),
    (Refuted, ("h(h(h(a))) = a", "h(h(h(h(h(a))))) = a", "h(a) != a")), (Refuted, ("a = b", "b = c", "a != c")),
    (Refuted, ("all X: X = a", "some X Y: X != Y")), (Refuted, ("all X: g(h(X)) = X", "some X Y: h(X) = h(Y) and X != Y")),
    (Refuted, ("all X Y: (r(X, Y) then r(Y, X))", "all X Y Z: (r(X, Y) and r(Y, Z) then r(X, Z))",
               "all X: some Y: r(X, Y)", "some X: not r(X, X)")),
    (Refuted, ("all X: p(X) or q(X)", "all X: not p(X)", "some X: not q(X)")),
    (Saturated, ()), (Saturated, ("p",)), (Saturated, ("p or q", "not p or not q")), (Saturated, ("some X: p(X)",)),
    (Saturated, ("all Y: some X: r(X, Y)", "not some X: all Y: r(X, Y)")),
    (Saturated, ("even(z)", "all X: (even(X) then odd(s(X)))", "all X: (odd(X) then even(s(X)))",
                 "all X: not (even(X) and odd(X))")),
    (Saturated, ("all X Y: head(c(X, Y)) = X", "all X Y: tail(c(X, Y)) = Y", "all X Y: c(X, Y) != n")),
    (Saturated, ("all X Y: m(X, Y) = m(Y, X)",)), (Saturated, ("all X: f(e, X) = X", "all X: f(X, e) = X", GROUP[2])),
    (Saturated, ("all X: s(X) != z", "all X Y: (s(X) = s(Y) then X = Y)", "all X: add(X, z) = X",
                 "all X Y: add(X, s(Y)) = s(add(X, Y))")),
    (Saturated, ("a = b", "b = c", "a != d", "h(a) = h(b)")), (Saturated, ("all X: h(h(X)) = X", "some X: h(X) != X")),
    (Saturated, ("q or p(a)", "all X: (p(X) then X = a)", "a != b")))


def question(texts, ranks=()):
    sentences = [sentence_of(text) for text in texts]
    told = clauses_of(sentences)
    return order_with(order_of(sentences, ranks), told.made), told.clauses


def takes(order, clauses, told):
    """Whether the judge takes what is told."""
    if isinstance(told, Refuted):
        return is_refutation(clauses, told.lines)
    if isinstance(told, Saturated):
        return is_saturation(order, clauses, (told.lot, told.inputs, told.steps))
    return isinstance(told, OutOfSteps)


def by_hand(order, clauses, steps):
    """The kind of answer, and how often worked was called, by Loop, worked and reopened."""
    loop = Loop(order, clauses)
    while True:
        if not loop.waiting:
            loop = reopened(loop)
        if () in [clause for _, clause in loop.lines]:
            return Refuted, loop
        if not loop.waiting and not open_steps(loop) and not open_input(loop):
            return Saturated, loop
        if loop.spent == steps:
            return OutOfSteps, loop
        loop = worked(loop)


class SettleTest(unittest.TestCase):

    def test_known_theories(self):
        for kind, texts in KNOWN:
            order, clauses = question(texts)
            told = settle(order, clauses, 60)
            self.assertIsInstance(told, kind, texts)
            self.assertTrue(takes(order, clauses, told))

    def test_never_the_other_one_and_not_out_of_steps_with_more(self):
        for kind, texts in KNOWN:
            order, clauses = question(texts)
            known = []
            for steps in (0, 1, 2, 3, 5, 8, 12, 16, 20, 25, 60, 61, 90):
                told = settle(order, clauses, steps)
                self.assertIsInstance(told, (kind, OutOfSteps))
                self.assertTrue(takes(order, clauses, told))
                known.append(isinstance(told, OutOfSteps))
            self.assertEqual(known, sorted(known, reverse=True))

    def test_it_is_what_the_loop_leads_to(self):
        draw = drawer(53)
        kinds = []
        for order in (SMALL, WIDE):
            for clauses in drawn_rows(draw, order, 60):
                for steps in (0, 1, 2, draw.randint(3, 8), 12):
                    told = settle(order, clauses, steps)
                    kind, loop = by_hand(order, clauses, steps)
                    self.assertIs(type(told), kind)
                    self.assertTrue(takes(order, clauses, told), (clauses, told))
                    lot = tuple(loop.lines[index][1] for index in loop.kept)
                    if kind is OutOfSteps:
                        self.assertEqual(told.clauses, lot + tuple(loop.lines[index][1] for index in loop.waiting))
                    if kind is Saturated:
                        self.assertEqual(told.lot, lot)
                    kinds.append(kind)
        for kind in (Refuted, Saturated, OutOfSteps):
            self.assertGreater(kinds.count(kind), 40)

    def test_no_steps(self):
        for texts, expected in (((), Saturated), (("p", "[]"), Refuted), (("[]",), Refuted), (("p",), OutOfSteps),
                                (("p", "not p"), OutOfSteps)):
            clauses = [clause_of(text) for text in texts]
            order = order_of([sentence_of("p")])
            told = settle(order, clauses, 0)
            self.assertIs(type(told), expected)
            if expected is OutOfSteps:
                self.assertEqual(told.clauses, tuple(clauses))
            self.assertTrue(takes(order, clauses, told))

    def test_lines_and_lots_of_simple_theories(self):
        order, clauses = question(("p", "not p"))
        told = settle(order, clauses, 10)
        self.assertEqual(told.lines[-1], (("resolved", 2, 0), ()))
        self.assertEqual(settle(order, (), 5).lot, ())
        told = settle(order, [clause_of("not p")], 1)
        self.assertEqual((told.lot, told.inputs, told.steps), ((clause_of("not p"),), (("within", 0, (), (0,)),), ()))

    def test_wrong_numbers_of_steps(self):
        order, clauses = question(("p", "not p"))
        for thing in strange_values() + [-1, 1001, 10 ** 30, 1.0, "5", (5,), [5]]:
            if type(thing) is int and 0 <= thing <= 1000:
                continue
            for row in (clauses, (), ((),)):
                with self.assertRaises(BadNumber) as caught:
                    settle(order, row, thing)
                self.assertEqual(caught.exception.what, "steps")
                self.assertIs(caught.exception.number, thing)
        self.assertIsInstance(settle(order, clauses, 1000), Refuted)

    def test_what_is_kept(self):
        lines, steps = [((), ())], [("same", 0)]
        self.assertEqual(Refuted(lines).lines, (((), ()),))
        made = Saturated([1], (2,), steps)
        self.assertEqual((made.lot, made.inputs, made.steps), ((1,), (2,), (("same", 0),)))
        self.assertEqual(OutOfSteps([[]]).clauses, ([],))
        self.assertNotEqual(Refuted(lines), Refuted(lines))
        for thing in strange_values():
            if not isinstance(thing, list):
                self.assertIs(Refuted(thing).lines, thing)
                self.assertIs(OutOfSteps(thing).clauses, thing)


if __name__ == "__main__":
    unittest.main()
