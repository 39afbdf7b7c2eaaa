"""Point [1]: the main fact, over the whole program; and what sentences without great names come to."""

import itertools
import unittest

from downtoground.errors import TooGreat
from downtoground.ground import Closed, Rules, decide
from downtoground.judge import ground_lines, grounded, is_refutation, is_saturation
from downtoground.loop import OutOfSteps, Refuted, Saturated, settle
from downtoground.models import rules_for
from downtoground.orders import Order
from downtoground.sentences import clauses_of, is_so, order_with
from downtoground.structures import Structure, is_structure, structure_of
from downtoground.texts import kinds, order_of
from tests.calculus import clause_variables, put_all
from tests.helpers import drawer, ground_terms, weight
from tests.reckoning import falling_and_lean, is_bearable, led, walk_tree
from tests.sentencing import WORDS, drawn, truth


def drawn_order(draw, sentences, made):
    """An order of the names of sentences with drawn ranks, some weights and places drawn anew."""
    names = [name for row in kinds(sentences) for name, _ in row]
    ranks = draw.sample(names, draw.randint(0, len(names)))
    order = order_with(order_of(sentences, ranks), made)
    if draw.random() < 0.5:
        return order
    things = [(name, arity, draw.choice((1, 1, 2))) for name, arity, _ in draw.sample(order.things, len(order.things))]
    return Order(things, [(name, arity, draw.choice((1, 1, 3))) for name, arity, _ in order.truths])


def questions(seed, many, greats=True):
    draw = drawer(seed)
    words = WORDS if greats else ("not", "and", "or", "then", "same")
    for _ in range(many):
        sentences = [drawn(draw, (), words, draw.randint(0, 4)) for _ in range(draw.randint(1, 3))]
        if draw.random() < 0.4:
            # What follows from one of them is not so: there is a refutation.
            weaker = ("or", draw.choice(sentences), drawn(draw, (), words, draw.randint(0, 2)))
            sentences.insert(draw.randint(0, len(sentences)), ("not", weaker))
        told = clauses_of(sentences)
        if len(told.clauses) <= 12 and all(len(clause) <= 5 for clause in told.clauses):
            yield draw, sentences, told, drawn_order(draw, sentences, told.made)


class MainFactTest(unittest.TestCase):

    def test_rows_of_drawn_sentences(self):
        told_kinds = []
        for draw, sentences, told, order in questions(1, 260):
            answer = settle(order, told.clauses, draw.choice((3, 10, 25, 40)))
            told_kinds.append(type(answer))
            if isinstance(answer, Refuted):
                self.assert_refuted(order, told.clauses, answer)
                self.assert_no_structure(draw, sentences)
            elif isinstance(answer, Saturated):
                self.assert_saturated(draw, order, told.clauses, answer)
            else:
                self.assertIsInstance(answer, OutOfSteps)
        self.assertGreater(told_kinds.count(Refuted), 30)
        self.assertGreater(told_kinds.count(Saturated), 80)

    def assert_refuted(self, order, clauses, answer):
        self.assertIs(is_refutation(clauses, answer.lines), True)
        try:
            pairs = grounded(order, clauses, answer.lines)
        except TooGreat:
            self.assertRaises(TooGreat, ground_lines, order, clauses, answer.lines)
            return
        lot = []
        for n, filling in pairs:
            self.assertEqual([variable for variable, _ in filling], sorted(clause_variables(clauses[n])))
            names = [name for name, _, _ in order.things]
            self.assertTrue(all(term[0] in names for _, term in filling))
            lot.append(put_all(clauses[n], dict(filling)))
        decided = decide(order, lot)
        self.assertIsInstance(decided, Closed)
        walk_tree(lot, decided.tree)

    def assert_no_structure(self, draw, sentences):
        """No drawn structure makes all sentences so."""
        things, truths = kinds(sentences)
        for _ in range(15):
            size = draw.choice((1, 2, 2))
            tables = {name: tuple(draw.randrange(size) for _ in range(size ** arity)) for name, arity in things}
            tables.update({name: tuple(draw.random() < 0.5 for _ in range(size ** arity)) for name, arity in truths})
            self.assertFalse(all(truth(size, tables, sentence, {}) for sentence in sentences))

    def assert_saturated(self, draw, order, clauses, answer):
        self.assertIs(is_saturation(order, clauses, (answer.lot, answer.inputs, answer.steps)), True)
        names = [name for name, _, _ in order.things]
        terms = [term for term in ground_terms(order, 4)[:12] if term[0] in names]
        for _ in range(3):
            lot = []
            for _ in range(6):
                clause = draw.choice(clauses + answer.lot) if clauses else ()
                if clause and len(clause_variables(clause)) <= 3:
                    ground = put_all(clause, {variable: draw.choice(terms) for variable in clause_variables(clause)})
                    if all(weight(order, side) <= 8 for _, left, right in ground for side in (left, right)):
                        lot.append(ground)
            rules = rules_for(order, answer.lot, lot)
            self.assertTrue(falling_and_lean(order, rules))
            for clause in lot:
                forms = [(sign, led(rules, left, draw), led(rules, right, draw)) for sign, left, right in clause]
                self.assertTrue(any((left == right) == sign for sign, left, right in forms), (clauses, clause))

    def test_never_both_for_unlike_orders(self):
        both = []
        for draw, sentences, told, order in questions(2, 120):
            found = {type(settle(drawn_order(draw, sentences, told.made), told.clauses, 20)) for _ in range(3)}
            self.assertFalse({Refuted, Saturated} <= found, sentences)
            both.append(found)
        self.assertGreater(len([found for found in both if Refuted in found]), 12)
        self.assertGreater(len([found for found in both if Saturated in found]), 40)


class WithoutGreatNamesTest(unittest.TestCase):

    def test_settle_and_decide_tell_what_the_structures_say(self):
        answers = []
        for draw, sentences, told, order in questions(3, 160, False):
            self.assertFalse([clause for clause in told.clauses if clause_variables(clause)])
            answer = settle(order, told.clauses, 300)
            decided = decide(order, told.clauses)
            things, truths = kinds(sentences)
            self.assertIs(isinstance(answer, Refuted), isinstance(decided, Closed))
            self.assertIs(isinstance(answer, Saturated), isinstance(decided, Rules))
            answers.append(type(answer))
            if isinstance(answer, Refuted) and len(told.clauses) < 7:
                self.assertFalse(is_bearable(told.clauses))
            most = 1 + max([arity for _, arity in things + truths])
            if len(things) + len(truths) < 4 and most < 3:
                found = any(self.has_structure(size, sentences, things, truths) for size in (1, 2))
                self.assertTrue(not found or isinstance(answer, Saturated))
            if isinstance(answer, Saturated):
                self.assert_some_structure(order, sentences, told)
        self.assertGreater(answers.count(Refuted), 8)
        self.assertGreater(answers.count(Saturated), 60)

    def has_structure(self, size, sentences, things, truths):
        rows = [itertools.product(range(size), repeat=size ** arity) for _, arity in things]
        rows += [itertools.product((False, True), repeat=size ** arity) for _, arity in truths]
        names = [name for name, _ in things + truths]
        return any(all(truth(size, dict(zip(names, row)), sentence, {}) for sentence in sentences)
                   for row in itertools.product(*rows))

    def assert_some_structure(self, order, sentences, told):
        """A structure of a few elements satisfies what few terms tell of."""
        if max([arity for _, arity, _ in order.things]) < 2 and len(order.things) < 4:
            for size in (1, 2, 3):
                found = structure_of(order, size, told.clauses)
                if hasattr(found, "structure"):
                    self.assertTrue(is_structure(order, found.structure))
                    self.assertIsInstance(found.structure, Structure)
                    self.assertTrue(all(is_so(found.structure, sentence) for sentence in sentences))
                    return


if __name__ == "__main__":
    unittest.main()
