"""Points [70], [72] to [74], [76], [77]: theories, what follows from them, and findings."""

import unittest

from downtoground.errors import (BadLine, BadName, BadNumber, BadText, Needed, NoName, NothingToRedo, NothingToUndo, TakenName,
                                 Unbound, Unlike)
from downtoground.judge import is_refutation, is_saturation
from downtoground.loop import OutOfSteps, Refuted, Saturated, settle
from downtoground.sentences import clauses_of, is_so, order_with
from downtoground.structures import NoneFound, Structure, is_sought
from downtoground.texts import kinds, order_of, sentence_of, sentence_text
from downtoground.theories import Theory, is_theory_right
from tests.helpers import drawer, strange_values
from tests.sentencing import drawn
from tests.test_settle import KNOWN

GROUP = """assoc: all X Y Z: f(f(X, Y), Z) = f(X, f(Y, Z))
left: all X: f(e, X) = X
inv: all X: some Y: f(Y, X) = e
other: some Z: p(Z)
"""
LOGIC = "one: p then q\ntwo: q then r\nthree: p\nfour: some X: s(X)\n"


def shown(theory):
    """All that a theory tells of itself."""
    return tuple((name, theory.get(name), theory.grounds(name), theory.paper(name)) for name in theory.names())


class ErrorsCase(unittest.TestCase):

    def assert_refused(self, theory, error, function, *fields):
        """Whether a call raises an error of just this class with just these fields, and changes nothing."""
        before = shown(theory)
        with self.assertRaises(error) as caught:
            function()
        self.assertIs(type(caught.exception), error)
        told = list(vars(caught.exception).values())
        self.assertEqual(len(told), len(fields))
        for one, other in zip(told, fields):
            self.assertTrue(one is other or type(one) is type(other) and one == other, (told, fields))
        self.assertEqual(shown(theory), before)


def no_names():
    return [thing for thing in strange_values() if not isinstance(thing, str)] + [
        "", "A", "1a", "a b", "a-b", "_a", "all", "yes", "same", "abcdefghijklm", "aB", " a", "a ", ("a",), ["a"]]


class NamesTest(ErrorsCase):

    def test_what_a_theory_tells(self):
        theory = Theory(LOGIC)
        self.assertEqual(theory.names(), ("one", "two", "three", "four"))
        self.assertEqual(theory.get("two"), sentence_of("q then r"))
        self.assertIsNone(theory.grounds("one"))
        self.assertIsNone(theory.paper("one"))
        self.assertEqual(Theory().names(), ())
        self.assertEqual(theory, theory)
        self.assertNotEqual(theory, Theory(LOGIC))
        for thing in no_names() + ["five", "One", "one "]:
            for function in (theory.get, theory.grounds, theory.paper, theory.drop):
                self.assert_refused(theory, NoName, lambda: function(thing), thing)

    def test_made_with_wrong_texts(self):
        for text, error, fields in (
                ("a: p\nb: p(a)", Unlike, ["p"]), ("a: p\nb: p = q", Unlike, ["p"]), ("a: p and\nb: p(a)\nb: p", BadLine, [1, 9]),
                ("ranks q\na: p", BadName, ["q"]), ("ranks p q p\na: p or q", BadName, ["p"]), ("ranks q\na: p\nb: p(a)", Unlike, ["p"]),
                ("ranks p p\na: p", BadName, ["p"]), ("ranks p", BadName, ["p"]), (None, BadLine, [0, 0])):
            with self.assertRaises(error) as caught:
                Theory(text)
            self.assertEqual(list(vars(caught.exception).values()), fields)

    def test_put(self):
        theory = Theory(LOGIC)
        theory.put("five: t\n\nsix: p same t")
        self.assertEqual(theory.names(), ("one", "two", "three", "four", "five", "six"))
        for text, error, fields in (
                ("seven: s", Unlike, ("s",)), ("seven: t\none: p\ntwo: q", TakenName, ("one",)), ("two: q\none: p", TakenName, ("two",)),
                ("one: p\none: q", BadLine, (2, 1)), ("one: p(", BadLine, (1, 8)), ("one: p(a)", TakenName, ("one",)),
                ("ranks u\nseven: t", BadName, ("u",)), ("ranks u\nseven: p(a)", Unlike, ("p",)), ("ranks p u p", BadName, ("u",)),
                ("ranks t t\none: p", TakenName, ("one",)), (7, BadLine, (0, 0))):
            self.assert_refused(theory, error, lambda: theory.put(text), *fields)

    def test_ranks(self):
        theory = Theory("ranks p q\na: p or q")
        theory.put("b: r")
        theory.put("ranks r")
        self.assert_refused(theory, BadName, lambda: theory.put("ranks x"), "x")
        theory.drop("b")
        # What no sentence has any more is gone from the ranks: so nothing is wrong with them.
        theory.put("c: not p")
        self.assertEqual(theory.names(), ("a", "c"))
        theory = Theory("ranks p q\na: p or q\nb: q")
        theory.drop("a")
        theory.put("c: r")
        theory.drop("b")
        theory.drop("c")
        theory.put("d: p(a)")
        self.assertEqual(theory.names(), ("d",))

    def test_questions_go_by_the_ranks(self):
        for ranks in (("p",), ("q", "p"), ("q",), ()):
            text = "a: p or q\nb: not p or not q\nc: all X: some Y: f(X) = Y or q"
            theory = Theory(text + ("\nranks " + " ".join(ranks) if ranks else ""))
            sentences = [theory.get(name) for name in theory.names()]
            asked = sentence_of("some Z: (q and z2(Z))")
            told = clauses_of(sentences + [("not", asked)])
            order = order_with(order_of(sentences + [asked], ranks), told.made)
            self.assert_alike(theory.follows("some Z: (q and z2(Z))", 30), settle(order, told.clauses, 30))
            whole = clauses_of(sentences)
            order = order_with(order_of(sentences, ranks), whole.made)
            self.assert_alike(theory.consistent(30), settle(order, whole.clauses, 30))

    def assert_alike(self, one, other):
        self.assertIs(type(one), type(other))
        self.assertEqual(vars(one), vars(other))

    def test_drop(self):
        theory = Theory(LOGIC)
        theory.finding("five", "r", 30)
        theory.finding("six", "r or t", 30)
        theory.finding("seven", "t or not t", 30)
        self.assertEqual([theory.grounds(name) for name in ("five", "seven")], [("one", "two", "three"), ()])
        for name, finding in (("one", "five"), ("two", "five"), ("three", "five")):
            self.assert_refused(theory, Needed, lambda: theory.drop(name), name, finding)
        for name in ("four", "seven", "six", "five", "one", "two", "three"):
            theory.drop(name)
            self.assertNotIn(name, theory.names())
            self.assertIs(is_theory_right(theory), True)
        self.assertEqual(theory.names(), ())
        self.assert_refused(theory, NoName, lambda: theory.drop("one"), "one")

    def test_rename(self):
        theory = Theory(LOGIC)
        theory.finding("five", "r", 30)
        theory.rename("two", "deux")
        theory.rename("five", "two")
        self.assertEqual(theory.names(), ("one", "deux", "three", "four", "two"))
        self.assertEqual(theory.grounds("two"), ("one", "deux", "three"))
        self.assertEqual(theory.get("deux"), sentence_of("q then r"))
        self.assertIs(is_theory_right(theory), True)
        for thing in no_names():
            self.assert_refused(theory, BadName, lambda: theory.rename("one", thing), thing)
            self.assert_refused(theory, BadName, lambda: theory.rename("none", thing), thing)
            if not isinstance(thing, str):
                self.assert_refused(theory, NoName, lambda: theory.rename(thing, "new"), thing)
                self.assert_refused(theory, NoName, lambda: theory.rename(thing, "one"), thing)
        self.assert_refused(theory, TakenName, lambda: theory.rename("one", "one"), "one")
        self.assert_refused(theory, TakenName, lambda: theory.rename("one", "two"), "two")
        self.assert_refused(theory, NoName, lambda: theory.rename("none", "one"), "none")


class FollowsTest(ErrorsCase):

    def assert_judged(self, theory, sentence, told):
        sentences = [theory.get(name) for name in theory.names()] + ([("not", sentence)] if sentence else [])
        asked = clauses_of(sentences)
        order = order_with(order_of(sentences), asked.made)
        if isinstance(told, Refuted):
            self.assertIs(is_refutation(asked.clauses, told.lines), True)
        elif isinstance(told, Saturated):
            self.assertIs(is_saturation(order, asked.clauses, (told.lot, told.inputs, told.steps)), True)
        else:
            self.assertIsInstance(told, OutOfSteps)

    def test_what_is_known(self):
        theory = Theory(GROUP)
        for text, kind in (("all X: f(X, e) = X", Refuted), ("all X: some Y: f(X, Y) = e", Refuted), ("some X: p(X)", Refuted),
                           ("all X: X = X", Refuted)):
            told = theory.follows(text, 60)
            self.assertIsInstance(told, kind, text)
            self.assert_judged(theory, sentence_of(text), told)
        theory = Theory(LOGIC)
        for text, kind in (("r", Refuted), ("q and r", Refuted), ("not p", Saturated), ("t", Saturated), ("s(a)", Saturated),
                           ("some X: s(X) and r", Refuted), ("all X: s(X)", Saturated), ("some1 = some1", Refuted)):
            told = theory.follows(text, 60)
            self.assertIsInstance(told, kind, text)
            self.assert_judged(theory, sentence_of(text), told)
        self.assertIsInstance(theory.follows("r", 0), OutOfSteps)
        self.assertIsInstance(Theory().follows("p or not p", 9), Refuted)
        self.assertIsInstance(Theory().follows("p", 9), Saturated)

    def test_consistent(self):
        for kind, texts in KNOWN:
            theory = Theory("\n".join(f"n{index}: {text}" for index, text in enumerate(texts)))
            told = theory.consistent(60)
            self.assertIsInstance(told, kind)
            self.assert_judged(theory, None, told)
        self.assertIsInstance(Theory("a: p").consistent(0), OutOfSteps)

    def test_errors_in_their_order(self):
        theory = Theory(LOGIC)
        for function in (theory.follows, lambda text, steps: theory.finding("new", text, steps)):
            for text, steps, error, fields in (
                    (7, "x", BadText, (0,)), ("p and", -1, BadText, (6,)), ("p(X)", -1, Unbound, ("X",)), ("p(a)", -1, Unlike, ("p",)),
                    ("t(a) and t", 2000, Unlike, ("t",)), ("t", -1, BadNumber, ("steps", -1)), ("t", 1001, BadNumber, ("steps", 1001)),
                    ("t", True, BadNumber, ("steps", True)), ("t", "5", BadNumber, ("steps", "5"))):
                self.assert_refused(theory, error, lambda: function(text, steps), *fields)
        for thing in no_names():
            self.assert_refused(theory, BadName, lambda: theory.finding(thing, 7, "x"), thing)
        self.assert_refused(theory, TakenName, lambda: theory.finding("one", 7, "x"), "one")
        for thing in strange_values():
            if type(thing) is not int or not 0 <= thing <= 1000:
                self.assert_refused(theory, BadNumber, lambda: theory.consistent(thing), "steps", thing)
                self.assert_refused(theory, BadNumber, lambda: theory.follows("t", thing), "steps", thing)
            if type(thing) is not int or not 1 <= thing <= 8:
                self.assert_refused(theory, BadNumber, lambda: theory.parted("t", thing), "size", thing)
        for text, size, error, fields in ((7, "x", BadText, (0,)), ("p(X)", 0, Unbound, ("X",)), ("p(a)", 0, Unlike, ("p",)),
                                          ("p", 0, BadNumber, ("size", 0)), ("p", 9, BadNumber, ("size", 9)),
                                          ("p", True, BadNumber, ("size", True)), ("p", 1.0, BadNumber, ("size", 1.0))):
            self.assert_refused(theory, error, lambda: theory.parted(text, size), *fields)


class FindingTest(ErrorsCase):

    def assert_finding(self, theory, name, text, steps=60):
        before = shown(theory)
        sentence = sentence_of(text)
        told = theory.finding(name, text, steps)
        self.assertIsInstance(told, tuple)
        answer, grounds = told
        if not isinstance(answer, Refuted):
            self.assertIsNone(grounds)
            self.assertEqual(shown(theory), before)
            return None
        self.assertEqual(theory.names(), tuple(entry[0] for entry in before) + (name,))
        self.assertEqual(shown(theory)[:-1], before)
        self.assertEqual(theory.get(name), sentence)
        self.assertEqual(theory.grounds(name), grounds)
        self.assertEqual(list(grounds), [other for other in theory.names() if other in grounds])
        asked = clauses_of([entry[1] for entry in before] + [("not", sentence)])
        owners = [index for index, count in enumerate(asked.counts) for _ in range(count)]
        needed = {owners[step[1]] for step, _ in answer.lines if step[0] == "input"}
        self.assertEqual(grounds, tuple(entry[0] for index, entry in enumerate(before) if index in needed))
        own = clauses_of([theory.get(ground) for ground in grounds] + [("not", sentence)])
        self.assertIs(is_refutation(own.clauses, theory.paper(name)), True)
        self.assertIs(is_theory_right(theory), True)
        return grounds

    def test_by_hand(self):
        theory = Theory(GROUP)
        self.assertEqual(self.assert_finding(theory, "right", "all X: f(X, e) = X"), ("assoc", "left", "inv"))
        self.assertIsNotNone(self.assert_finding(theory, "rinv", "all X: some Y: f(X, Y) = e"))
        self.assertIsNone(self.assert_finding(theory, "never", "all X: p(X)", 20))
        self.assertEqual(self.assert_finding(theory, "ps", "some X: p(X)"), ("other",))
        theory = Theory(LOGIC)
        self.assertEqual(self.assert_finding(theory, "rr", "r"), ("one", "two", "three"))
        self.assertEqual(self.assert_finding(theory, "tt", "t or not t"), ())
        self.assertIsNone(self.assert_finding(theory, "no", "t"))
        self.assertIsNone(self.assert_finding(theory, "late", "q", 0))

    def test_new_names_in_papers(self):
        """Papers stand by themselves: new names are told anew without the sentences that are no grounds."""
        theory = Theory("\n".join((
            "x1: some X: u(X) or some1 = some2", "x2: some X: (p(X) or q and r(X))", "x3: all X: not p(X)",
            "x4: some Y: (part1 or q and u(Y))", "x5: all X: (r(X) then some Y: v(X, Y) and v(Y, X))")))
        self.assertEqual(self.assert_finding(theory, "y1", "some X: r(X)"), ("x2", "x3"))
        grounds = self.assert_finding(theory, "y2", "some X Y: v(X, Y) and q")
        self.assertIn("x5", grounds)
        self.assertNotIn("x1", grounds)
        theory.rename("x2", "z2")
        theory.put("more: some3 = part7")
        self.assertIs(is_theory_right(theory), True)

    def test_drawn(self):
        draw = drawer(73)
        found = 0
        for _ in range(120):
            lines = [drawn(draw, (), ("not", "and", "or", "then", "all", "some"), draw.randint(0, 4)) for _ in range(3)]
            theory = Theory()
            for index, sentence in enumerate(lines):
                theory.put(f"n{index}: {sentence_text(sentence)}")
            for index in range(2):
                sentence = drawn(draw, (), ("not", "or", "then", "some"), draw.randint(0, 3))
                if draw.random() < 0.5:
                    sentence = ("or", sentence, draw.choice(lines))
                found += self.assert_finding(theory, f"m{index}", sentence_text(sentence), 20) is not None
        self.assertGreater(found, 50)

    def test_wrong_theories_are_told(self):
        theory = Theory(LOGIC)
        theory.finding("five", "r", 30)

        class Lying(Theory):
            def paper(self, name):
                told = Theory.paper(self, name)
                return None if told is None else told[:-1]

        lying = Lying(LOGIC)
        lying.finding("five", "r", 30)
        self.assertIs(is_theory_right(theory), True)
        self.assertIs(is_theory_right(lying), False)
        self.assertIs(is_theory_right(Theory()), True)


class PartedTest(ErrorsCase):

    def assert_parted(self, theory, text, size):
        told = theory.parted(text, size)
        sentence = sentence_of(text)
        sentences = [theory.get(name) for name in theory.names()]
        if isinstance(told, Structure):
            self.assertEqual(told.size, size)
            things, truths = kinds(sentences + [sentence])
            self.assertEqual(set(told.tables), {name for name, _ in things + truths})
            for name, arity in things + truths:
                self.assertEqual(len(told.tables[name]), size ** arity)
            for other in sentences:
                self.assertIs(is_so(told, other), True)
            self.assertIs(is_so(told, sentence), False)
            return True
        self.assertIsInstance(told, NoneFound)
        asked = clauses_of(sentences + [("not", sentence)])
        order = order_with(order_of(sentences + [sentence]), asked.made)
        self.assertIs(is_sought(order, size, asked.clauses, told), True)
        return False

    def test_by_hand(self):
        theory = Theory(GROUP)
        for text, size, expected in (("all X: f(X, e) = X", 2, False), ("all X: X = e", 2, True), ("all X: X = e", 1, False),
                                     ("all X Y: f(X, Y) = f(Y, X)", 3, False), ("all X: f(X, X) = e", 3, True),
                                     ("all X: p(X)", 1, False), ("all X: p(X)", 2, True)):
            self.assertIs(self.assert_parted(theory, text, size), expected, text)
        self.assertIs(self.assert_parted(Theory(), "all X: p(X)", 1), True)
        self.assertIs(self.assert_parted(Theory(), "some X Y: X != Y", 1), True)
        self.assertIs(self.assert_parted(Theory(), "some X Y: X != Y", 2), False)
        self.assertEqual(Theory("a: all X: p(X)").parted("q", 2).tables, {"p": (True, True), "q": (False,)})

    def test_what_follows_is_parted_by_nothing(self):
        draw = drawer(76)
        kinds_told = []
        for _ in range(100):
            lines = [drawn(draw, (), ("not", "and", "or", "then", "all", "some"), draw.randint(0, 3)) for _ in range(2)]
            theory = Theory("\n".join(f"n{index}: {sentence_text(sentence)}" for index, sentence in enumerate(lines)))
            text = sentence_text(drawn(draw, (), ("not", "or", "some", "all"), draw.randint(0, 3)))
            told = theory.follows(text, 25)
            parted = [self.assert_parted(theory, text, size) for size in (1, 2)]
            if isinstance(told, Refuted):
                self.assertEqual(parted, [False, False])
            kinds_told.append((type(told), any(parted)))
            if isinstance(told, Saturated):
                again = theory.finding("new", text, 25)
                self.assertIsNone(again[1])
        self.assertGreater(kinds_told.count((Saturated, True)), 20)
        self.assertGreater(kinds_told.count((Refuted, False)), 10)


class FreshTest(ErrorsCase):

    def test_nothing_to_undo_or_redo(self):
        for theory in (Theory(), Theory(LOGIC)):
            self.assert_refused(theory, NothingToUndo, theory.undo)
            self.assert_refused(theory, NothingToRedo, theory.redo)


if __name__ == "__main__":
    unittest.main()
