"""Point [7]: the names in sentences, and the order of them."""

import unittest

from downtoground.errors import BadName, Unlike
from downtoground.orders import Order
from downtoground.texts import kinds, order_of, sentence_of
from tests.helpers import drawer, strange_values
from tests.test_sentences import drawn_sentence


def sentences(*texts):
    return tuple(sentence_of(text) for text in texts)


def listed(sentence):
    """All (name, arity, is a truth) of a sentence from the left, by plain descent."""
    def spoken(term, is_truth):
        if isinstance(term, str):
            return []
        return [(term[0], len(term) - 1, is_truth)] + [item for part in term[1:] for item in spoken(part, False)]

    if sentence[0] == "is":
        return spoken(sentence[1], True)
    if sentence[0] == "equal":
        return spoken(sentence[1], False) + spoken(sentence[2], False)
    return [item for part in sentence[1:] if isinstance(part, tuple) for item in listed(part)]


class KindsTest(unittest.TestCase):

    def assert_unlike(self, name, *texts):
        for asked in (kinds, order_of):
            with self.assertRaises(Unlike) as held:
                asked(sentences(*texts))
            self.assertEqual(held.exception.what, name)

    def test_by_hand(self):
        self.assertEqual(kinds(()), ((), ()))
        self.assertEqual(kinds([]), ((), ()))
        told = kinds(sentences("q(f(b), a) and all X: X = g(b, X)", "some Y: p or q(Y, c)"))
        self.assertEqual(told, ((("f", 1), ("b", 0), ("a", 0), ("g", 2), ("c", 0)), (("q", 2), ("p", 0))))
        self.assertEqual(kinds(sentences("not (c != b)", "b = a then p(a)")),
                         ((("c", 0), ("b", 0), ("a", 0)), (("p", 1),)))

    def test_unlike(self):
        self.assert_unlike("f", "f(a) = f(a, a)")
        self.assert_unlike("p", "p(p)")
        self.assert_unlike("p", "p", "p = a")
        self.assert_unlike("a", "p(a)", "a")
        self.assert_unlike("p", "p(a) and p")
        self.assert_unlike("b", "p(b) and f(b(a)) = f")
        self.assert_unlike("q", "q(a)", "p(q) or p(a, a)")
        self.assert_unlike("p", "q(a)", "p(a) or p(a, q)")
        self.assert_unlike("g", "all X: f(X) = g(X)", "some X: g or f")

    def test_drawn(self):
        draw = drawer(71)
        unlike = 0
        for _ in range(500):
            row = [drawn_sentence(draw, (), draw.randint(0, 3)) for _ in range(draw.randint(0, 3))]
            known = {}
            first = None
            for name, arity, is_truth in [item for sentence in row for item in listed(sentence)]:
                if known.setdefault(name, (arity, is_truth)) != (arity, is_truth) and first is None:
                    first = name
            if first is not None:
                unlike += 1
                with self.assertRaises(Unlike) as held:
                    kinds(row)
                self.assertEqual(held.exception.what, first)
                continue
            things = tuple((name, known[name][0]) for name in known if not known[name][1])
            truths = tuple((name, known[name][0]) for name in known if known[name][1])
            self.assertEqual(kinds(row), (things, truths))
            self.assertEqual(kinds(tuple(row)), (things, truths))
        self.assertGreater(unlike, 20)


class OrderTest(unittest.TestCase):

    def assert_order(self, told, things, truths):
        self.assertIsInstance(told, Order)
        self.assertEqual(told.things, tuple((name, arity, 1) for name, arity in things))
        self.assertEqual(told.truths, tuple((name, arity, 1) for name, arity in truths))

    def assert_bad_name(self, row, ranks, name):
        with self.assertRaises(BadName) as held:
            order_of(row, ranks)
        self.assertIs(held.exception.name, name)

    def test_names_in_their_order(self):
        row = sentences("q(f(b), a) and all X: X = g(b, X)", "p")
        self.assert_order(order_of(row), (("f", 1), ("b", 0), ("a", 0), ("g", 2)), (("q", 2), ("p", 0)))
        self.assert_order(order_of(list(row), ()), (("f", 1), ("b", 0), ("a", 0), ("g", 2)), (("q", 2), ("p", 0)))

    def test_ranks(self):
        row = sentences("q(f(b), a) and all X: X = g(b, X)", "p or r(a)")
        self.assert_order(order_of(row, ("b",)), (("f", 1), ("a", 0), ("g", 2), ("b", 0)),
                          (("q", 2), ("p", 0), ("r", 1)))
        self.assert_order(order_of(row, ranks=["r", "g", "q", "f"]), (("b", 0), ("a", 0), ("g", 2), ("f", 1)),
                          (("p", 0), ("r", 1), ("q", 2)))
        self.assert_order(order_of(row, ("p", "r", "q", "g", "a", "b", "f")),
                          (("g", 2), ("a", 0), ("b", 0), ("f", 1)), (("p", 0), ("r", 1), ("q", 2)))

    def test_nil(self):
        self.assert_order(order_of(()), (("nil", 0),), ())
        self.assert_order(order_of(sentences("p")), (("nil", 0),), (("p", 0),))
        self.assert_order(order_of(sentences("all X: f(X) = g(X)"), ("f",)), (("nil", 0), ("g", 1), ("f", 1)), ())
        self.assert_order(order_of(sentences("nil")), (("nil_", 0),), (("nil", 0),))
        self.assert_order(order_of(sentences("all X: nil(X) = nil_(X, X)")),
                          (("nil__", 0), ("nil", 1), ("nil_", 2)), ())
        self.assert_order(order_of(sentences("nil_")), (("nil", 0),), (("nil_", 0),))
        self.assert_order(order_of(sentences("p(nil)")), (("nil", 0),), (("p", 1),))
        self.assert_order(order_of(sentences("all X: nil_(X) = f(X)", "nil")),
                          (("nil__", 0), ("nil_", 1), ("f", 1)), (("nil", 0),))

    def test_bad_names(self):
        row = sentences("p(a) and q(f(a))")
        self.assert_bad_name(row, ("a", "b", "c"), "b")
        self.assert_bad_name(row, ("a", "p", "a"), "a")
        self.assert_bad_name(row, ("X",), "X")
        self.assert_bad_name(row, ("nil",), "nil")
        self.assert_bad_name(sentences("p"), ("nil",), "nil")
        self.assert_bad_name(row, ("p", "yes", "p"), "yes")
        for value in strange_values():
            self.assert_bad_name(row, ("a", value, "b"), value)

    def test_unlike_goes_ahead(self):
        with self.assertRaises(Unlike):
            order_of(sentences("p(p)"), ("none",))


if __name__ == "__main__":
    unittest.main()
