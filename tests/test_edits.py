"""Point [75]: edits taken back and done again, attempts and trials."""

import unittest

from downtoground.errors import BadLine, NoName, NothingToRedo, NothingToUndo, SettleError
from downtoground.theories import Theory, is_theory_right
from tests.helpers import drawer
from tests.test_theories import LOGIC, shown

TEXTS = ("e: p or e1", "f: not e1", "e: q", "f: t then t", "ranks x", "", "e: p(", "g: some X: s(X)\nh: s(a)", "one: p")
NAMES = ("one", "two", "three", "four", "e", "f", "g", "h", "n1", "n2")
SENTENCES = ("r", "q and r", "t", "p or t", "some X: s(X)", "t(")


def unwind(theory):
    """All that a theory was, back to the first undo, and all that it comes to by redo; it is as it was then."""
    back = []
    forth = []
    while True:
        try:
            theory.undo()
        except NothingToUndo:
            break
        back.append(shown(theory))
    for _ in back:
        theory.redo()
    while True:
        try:
            theory.redo()
        except NothingToRedo:
            break
        forth.append(shown(theory))
    for _ in forth:
        theory.undo()
    return back, forth


class Mirror:
    """A theory with the states that could be taken back and done again beside it."""

    def __init__(self, test, theory):
        self.test = test
        self.theory = theory
        self.done = []
        self.undone = []

    def check(self):
        back, forth = unwind(self.theory)
        self.test.assertEqual(back, self.done[::-1])
        self.test.assertEqual(forth, self.undone[::-1])

    def note(self, before):
        """Notes a call behind which the theory is perhaps another one."""
        if shown(self.theory) != before:
            self.done.append(before)
            self.undone.clear()

    def call(self, function, *arguments):
        before = shown(self.theory)
        try:
            told = function(*arguments)
        except SettleError:
            self.test.assertEqual(shown(self.theory), before)
            return None
        self.note(before)
        return told

    def undo(self):
        if not self.done:
            self.test.assertRaises(NothingToUndo, self.theory.undo)
            return
        self.undone.append(shown(self.theory))
        self.test.assertIsNone(self.theory.undo())
        self.test.assertEqual(shown(self.theory), self.done.pop())

    def redo(self):
        if not self.undone:
            self.test.assertRaises(NothingToRedo, self.theory.redo)
            return
        self.done.append(shown(self.theory))
        self.test.assertIsNone(self.theory.redo())
        self.test.assertEqual(shown(self.theory), self.undone.pop())


class Stop(BaseException):
    """An error that derives from no other one but the outermost."""


def edit(draw, mirror):
    theory = mirror.theory
    choice = draw.randrange(7)
    if choice < 2:
        mirror.call(theory.put, draw.choice(TEXTS))
    elif choice == 2:
        mirror.call(theory.drop, draw.choice(NAMES))
    elif choice == 3:
        mirror.call(theory.rename, draw.choice(NAMES), draw.choice(NAMES))
    elif choice == 4:
        mirror.call(theory.finding, draw.choice(NAMES), draw.choice(SENTENCES), draw.choice((0, 12, 12)))
    elif choice == 5:
        mirror.undo()
    else:
        mirror.redo()


def script(draw, mirror, deep):
    """Edits one after another, with attempts and trials among them."""
    for _ in range(draw.randint(1, 7)):
        if deep and draw.random() < 0.35:
            nested(draw, mirror, deep)
        else:
            edit(draw, mirror)
    mirror.check()


def nested(draw, mirror, deep):
    theory = mirror.theory
    before = shown(theory)
    is_trial = draw.random() < 0.5
    error = draw.choice((None, None, None, Stop, ZeroDivisionError, NoName))
    told = object()

    def action(given):
        mirror.test.assertIs(given, theory)
        inner = Mirror(mirror.test, theory)
        script(draw, inner, deep - 1)
        if error is not None:
            raise error("none") if error is NoName else error
        return told

    function = theory.trial if is_trial else theory.attempt
    if error is None:
        mirror.test.assertIs(function(action), told)
    else:
        mirror.test.assertRaises(error, function, action)
    if is_trial or error is not None:
        mirror.test.assertEqual(shown(theory), before)
    mirror.note(before)
    mirror.check()


class EditsTest(unittest.TestCase):

    def test_drawn_scripts(self):
        draw = drawer(75)
        most = 0
        for _ in range(150):
            mirror = Mirror(self, Theory(draw.choice((LOGIC, "", "ranks q\none: p then q\ntwo: p"))))
            for _ in range(5):
                script(draw, mirror, 3)
            self.assertIs(is_theory_right(mirror.theory), True)
            most = max(most, len(mirror.done))
        self.assertGreater(most, 4)

    def test_to_the_ends_and_back(self):
        theory = Theory(LOGIC)
        states = [shown(theory)]
        for action in (lambda: theory.put("e: t"), lambda: theory.finding("f", "r", 20), lambda: theory.rename("one", "eins"),
                       lambda: theory.drop("four"), lambda: theory.drop("f"), lambda: theory.put("f: t same t")):
            action()
            states.append(shown(theory))
        for _ in range(2):
            for state in states[-2::-1]:
                theory.undo()
                self.assertEqual(shown(theory), state)
                self.assertIs(is_theory_right(theory), True)
            self.assertRaises(NothingToUndo, theory.undo)
            for state in states[1:]:
                theory.redo()
                self.assertEqual(shown(theory), state)
            self.assertRaises(NothingToRedo, theory.redo)
        theory.undo()
        theory.put("g: u")
        self.assertRaises(NothingToRedo, theory.redo)

    def test_what_is_no_edit(self):
        theory = Theory(LOGIC)
        theory.put("e: t")
        theory.undo()
        for action in (lambda: theory.put(""), lambda: theory.put("\n  \n"), lambda: theory.follows("r", 20),
                       lambda: theory.finding("g", "t", 20), lambda: theory.consistent(20), lambda: theory.parted("t", 1),
                       lambda: theory.names(), lambda: theory.attempt(lambda same: same.follows("r", 9)),
                       lambda: theory.trial(lambda same: same.put("e: u"))):
            action()
        for action in (lambda: theory.put("e: ("), lambda: theory.drop("none"), lambda: theory.rename("one", "two"),
                       lambda: theory.finding("one", "r", 9)):
            self.assertRaises(SettleError, action)
        self.assertRaises(NothingToUndo, theory.undo)
        theory.redo()
        self.assertEqual(theory.names()[-1], "e")

    def test_ranks_alone_are_an_edit(self):
        theory = Theory("a: p or q")
        theory.put("ranks p")
        theory.put("ranks p")
        theory.undo()
        self.assertRaises(NothingToUndo, theory.undo)
        theory.redo()
        self.assertRaises(NothingToRedo, theory.redo)


class AttemptTest(unittest.TestCase):

    def test_all_edits_are_one(self):
        theory = Theory(LOGIC)
        start = shown(theory)

        def action(same):
            same.put("e: t")
            same.put("f: u")
            same.drop("four")
            return same.names()

        self.assertEqual(theory.attempt(action), ("one", "two", "three", "e", "f"))
        end = shown(theory)
        theory.undo()
        self.assertEqual(shown(theory), start)
        self.assertRaises(NothingToUndo, theory.undo)
        theory.redo()
        self.assertEqual(shown(theory), end)
        self.assertRaises(NothingToRedo, theory.redo)

    def test_none_if_the_theory_is_as_it_was(self):
        theory = Theory(LOGIC)
        theory.put("e: t")
        theory.undo()

        def action(same):
            same.put("e: u")
            same.drop("e")
            same.put("f: v")
            same.undo()

        self.assertIsNone(theory.attempt(action))
        self.assertRaises(NothingToUndo, theory.undo)
        theory.redo()
        self.assertEqual(theory.get("e"), ("is", ("t",)))

    def test_undo_and_redo_within_know_its_own_edits_alone(self):
        for kind in ("attempt", "trial"):
            theory = Theory(LOGIC)
            theory.put("e: t")
            theory.put("f: t")
            theory.undo()

            def action(same):
                self.assertRaises(NothingToUndo, same.undo)
                self.assertRaises(NothingToRedo, same.redo)
                same.put("g: t")
                same.put("h: t")
                same.undo()
                same.undo()
                self.assertRaises(NothingToUndo, same.undo)
                same.redo()

            getattr(theory, kind)(action)
            if kind == "attempt":
                # What was taken back within is gone behind it.
                self.assertRaises(NothingToRedo, theory.redo)
                self.assertEqual(theory.names()[-1], "g")
                theory.undo()
            else:
                theory.redo()
                theory.undo()
            self.assertEqual(theory.names()[-1], "e")

    def test_errors_of_whatever_kind(self):
        for kind in ("attempt", "trial"):
            for error in (BadLine(3, 4), ValueError("x"), KeyboardInterrupt(), SystemExit(1), Stop(), StopIteration(5)):
                theory = Theory(LOGIC)
                theory.put("e: t")
                theory.undo()
                before = shown(theory)

                def action(same):
                    same.put("e: u")
                    same.finding("f", "r", 20)
                    raise error

                with self.assertRaises(type(error)) as caught:
                    getattr(theory, kind)(action)
                self.assertIs(caught.exception, error)
                self.assertEqual(shown(theory), before)
                self.assertRaises(NothingToUndo, theory.undo)
                theory.redo()
                self.assertEqual(theory.get("e"), ("is", ("t",)))
            theory = Theory(LOGIC)
            self.assertRaises(TypeError, getattr(theory, kind), None)
            self.assertEqual(shown(theory), shown(Theory(LOGIC)))

    def test_one_within_another(self):
        theory = Theory(LOGIC)

        def inner(same):
            same.put("f: t")
            same.put("g: t")

        def outer(same):
            same.put("e: t")
            same.attempt(inner)
            same.undo()
            self.assertEqual(same.names()[-1], "e")
            same.redo()
            same.trial(lambda again: again.drop("g"))
            self.assertEqual(same.names()[-1], "g")
            return same.trial(lambda again: again.attempt(lambda last: (last.drop("e"), last.names())[1]))

        self.assertEqual(theory.attempt(outer), ("one", "two", "three", "four", "f", "g"))
        self.assertEqual(theory.names()[-3:], ("e", "f", "g"))
        theory.undo()
        self.assertEqual(shown(theory), shown(Theory(LOGIC)))


if __name__ == "__main__":
    unittest.main()
