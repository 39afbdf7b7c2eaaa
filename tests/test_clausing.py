"""Points [27] to [31]: witnesses, open forms, clauses, and tables for new names."""

import copy
import unittest

from downtoground.orders import Order
from downtoground.sentences import Clauses, clauses_of, is_so, order_with, tables_for
from downtoground.structures import Structure, is_structure, is_true
from downtoground.texts import clause_of, kinds, order_of, sentence_of
from tests.helpers import drawer
from tests.reckoning import rows
from tests.sentencing import THINGS, TRUTHS, WORDS, Clausing, drawn, many_ands, names_of, truth
from tests.test_meaning import drawn_structure

TEXTS = (
    "all X: some Y: r(X, Y) and not some Z: r(Z, Y)",
    "all X: (p(X) or q and (part2(X) or a = f(X) and some1 = X)) and (p(X) and q or q and p(a))",
    "some X: all Y: some Z: r(X, Y) then r(Y, Z) and X != Z",
    "(some X: p(X)) same all X: part2(X)",
    "not (all X: some Y: (r(X, Y) and p(Y)) or q)",
    "all X Y Z: (r(X, Y) and r(Y, Z) then r(X, Z))",
    "q and (p(a) or (q or p(f(a)) and q) or not q and not p(a))",
    "some X Y: (p(X) or (p(Y) and all Z: (r(Z, X) or some X: r(X, Z) and r(Y, X))))",
    "q", "not q", "a != some1")


def structure_for(draw, size, row):
    """A drawn structure with tables for just the names of some sentences."""
    names = [name for sentence in row for name in names_of(sentence)]
    return drawn_structure(draw, size, tuple(pair for pair in THINGS + TRUTHS if pair[0] in names))


def rows_of_sentences():
    yield [sentence_of(text) for text in TEXTS]
    for text in TEXTS:
        yield [sentence_of(text)]
    yield []
    draw = drawer(28)
    for _ in range(250):
        yield [drawn(draw, (), WORDS, draw.randint(0, 7)) for _ in range(draw.randint(1, 3))]


class ClausesTest(unittest.TestCase):

    def test_by_hand(self):
        told = clauses_of([sentence_of("all X: some Y: p(X) or (r(X, Y) and q)"), sentence_of("some X: p(X)")])
        self.assertIsInstance(told, Clauses)
        self.assertEqual(told.clauses, tuple(clause_of(text) for text in (
            "p(X0) | part1(X0)", "not part1(X0) | r(X0, some1(X0))", "not part1(X0) | q", "p(some2)")))
        self.assertEqual(told.counts, (3, 1))
        inner = ("and", ("is", ("r", "X1", ("some1", "X1"))), ("is", ("q",)))
        body = ("or", ("is", ("p", "X1")), ("and", ("is", ("r", "X1", "X2")), ("is", ("q",))))
        self.assertEqual(told.made, (("some", "some1", ("X1",), "X2", body), ("part", "part1", ("X1",), inner),
                                     ("some", "some2", (), "X1", ("is", ("p", "X1")))))

    def test_names_that_stand_in_sentences_are_passed_over(self):
        told = clauses_of([sentence_of("some X: p(X)"), sentence_of("some2 = part1"), sentence_of("some X Y: X != Y"),
                           sentence_of("some1 or q and part2")])
        self.assertEqual([entry[1] for entry in told.made], ["some3", "some4", "some5", "part3"])

    def test_parts_get_their_names_ahead_of_those_within(self):
        told = clauses_of([sentence_of("q or p and (s or t and u) or v and w")])
        self.assertEqual(told.clauses, tuple(clause_of(text) for text in (
            "q | part1 | part2", "not part1 | p", "not part1 | s | part3", "not part3 | t", "not part3 | u",
            "not part2 | v", "not part2 | w")))

    def test_more_than_nine_great_names_stand_by_their_numbers(self):
        told = clauses_of([sentence_of("all A B C D E F G H I J: some K: r(J, g(B, K))")])
        self.assertEqual(told.made[0][2], ("X2", "X10"))
        self.assertEqual(told.clauses, (clause_of("r(X0, g(X1, some1(X1, X0)))"),))

    def test_drawn_word_for_word(self):
        parts = 0
        for row in rows_of_sentences():
            told = clauses_of(row)
            own = Clausing(row)
            self.assertEqual(told.made, tuple(own.made), row)
            self.assertEqual(told.clauses, tuple(own.clauses), row)
            self.assertEqual(told.counts, tuple(own.counts), row)
            self.assertEqual(clauses_of(tuple(row)).clauses, told.clauses)
            parts += len([entry for entry in told.made if entry[0] == "part"])
        self.assertGreater(parts, 100)

    def test_how_many(self):
        for row in rows_of_sentences():
            for sentence in row:
                told = clauses_of([sentence])
                parts = len([entry for entry in told.made if entry[0] == "part"])
                self.assertEqual(told.counts, (many_ands(Clausing([sentence]).forms[0]) + 1 + parts,))

    def test_what_is_kept(self):
        made = Clauses([1], (2,), [[3]])
        self.assertEqual((made.clauses, made.counts, made.made), ((1,), (2,), ([3],)))
        self.assertNotEqual(made, Clauses([1], (2,), [[3]]))

    def test_what_is_handed_in_stays(self):
        row = [sentence_of(text) for text in TEXTS]
        before = copy.deepcopy(row)
        clauses_of(row)
        self.assertEqual(row, before)


class OrderWithTest(unittest.TestCase):

    def test_by_hand(self):
        told = clauses_of([sentence_of("all X: some Y: p(X) or (r(X, Y) and q)")])
        order = Order((("a", 0, 3), ("f", 1, 2)), (("r", 2, 2), ("p", 1, 1), ("q", 0, 1)))
        wider = order_with(order, told.made)
        self.assertIsInstance(wider, Order)
        self.assertEqual(wider.things, (("a", 0, 3), ("f", 1, 2), ("some1", 1, 1)))
        self.assertEqual(wider.truths, (("r", 2, 2), ("p", 1, 1), ("q", 0, 1), ("part1", 1, 1)))
        self.assertEqual(order.things, (("a", 0, 3), ("f", 1, 2)))
        self.assertEqual(order_with(order, ()).things, order.things)

    def test_drawn(self):
        for row in rows_of_sentences():
            made = clauses_of(row).made
            order = order_of(row)
            wider = order_with(order, made)
            new = [(entry[0], (entry[1], len(entry[2]), 1)) for entry in made]
            self.assertEqual(wider.things, order.things + tuple(triple for word, triple in new if word == "some"))
            self.assertEqual(wider.truths, order.truths + tuple(triple for word, triple in new if word == "part"))


class TablesTest(unittest.TestCase):

    def wider_tables(self, structure, made):
        tables = dict(structure.tables)
        for entry in made:
            table = []
            for row in rows(structure.size, len(entry[2])):
                values = dict(zip(entry[2], row))
                if entry[0] == "part":
                    table.append(truth(structure.size, tables, entry[3], values))
                else:
                    fitting = [element for element in range(structure.size)
                               if truth(structure.size, tables, entry[4], {**values, entry[3]: element})]
                    table.append(min(fitting, default=0))
            tables[entry[1]] = tuple(table)
        return tables

    def test_by_the_words_of_the_document(self):
        draw = drawer(29)
        for row in rows_of_sentences():
            told = clauses_of(row)
            structure = structure_for(draw, draw.choice((1, 2, 3)), row)
            before = copy.deepcopy(structure.tables)
            wider = tables_for(structure, told.made)
            self.assertIsInstance(wider, Structure)
            self.assertEqual(wider.size, structure.size)
            self.assertEqual(wider.tables, self.wider_tables(structure, told.made))
            self.assertEqual(structure.tables, before)
            order = order_with(order_of(row), told.made)
            tables = {name: (0,) for name, _, _ in order.things if name not in wider.tables}
            self.assertTrue(is_structure(order, Structure(wider.size, {**wider.tables, **tables})))

    def test_fact_k(self):
        draw = drawer(30)
        made_true = 0
        for row in rows_of_sentences():
            told = clauses_of(row)
            for size in (1, 2, 2, 3):
                structure = structure_for(draw, size, row)
                so = all(is_so(structure, sentence) for sentence in row)
                wider = tables_for(structure, told.made)
                true = all(is_true(wider, clause) for clause in told.clauses)
                self.assertEqual(so, true)
                made_true += so
                self.assertTrue(so or not self.some_tables(draw, structure, told))
        self.assertGreater(made_true, 100)

    def some_tables(self, draw, structure, told):
        """Whether some drawn tables for the new names make all clauses true."""
        for _ in range(4):
            tables = dict(structure.tables)
            for entry in told.made:
                values = (False, True) if entry[0] == "part" else range(structure.size)
                many = structure.size ** len(entry[2])
                tables[entry[1]] = tuple(draw.choice(values) for _ in range(many))
            if all(is_true(Structure(structure.size, tables), clause) for clause in told.clauses):
                return True
        return False

    def test_whatever_tables_make_all_clauses_true(self):
        draw = drawer(31)
        many = 0
        for row in rows_of_sentences():
            told = clauses_of(row)
            if len(told.made) <= 3 and told.made:
                for _ in range(15):
                    structure = structure_for(draw, 2, row)
                    if self.some_tables(draw, structure, told):
                        many += 1
                        self.assertTrue(all(is_so(structure, sentence) for sentence in row), row)
        self.assertGreater(many, 50)

    def test_by_hand(self):
        told = clauses_of([sentence_of("all X: some Y: r(X, Y)"), sentence_of("q or p(a) and not p(a)")])
        self.assertEqual(kinds([sentence_of("q")]), ((), (("q", 0),)))
        structure = Structure(3, {"a": (1,), "q": (False,), "p": (True, True, False),
                                  "r": (False, True, True, False, False, False, True, True, True)})
        wider = tables_for(structure, told.made)
        self.assertEqual(wider.tables["some1"], (1, 0, 0))
        self.assertEqual(wider.tables["part1"], (False,))


if __name__ == "__main__":
    unittest.main()
