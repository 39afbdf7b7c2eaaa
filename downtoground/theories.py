"""Layer 12: axioms, and findings that stand on them."""

from downtoground.axioms import axioms_of
from downtoground.errors import BadName, BadNumber, Needed, NoName, NothingToRedo, NothingToUndo, TakenName
from downtoground.judge import is_refutation
from downtoground.loop import Refuted, lines_above, settle
from downtoground.scanning import is_name
from downtoground.sentences import clauses_of, order_with
from downtoground.standing import lines_from, sentences_needed
from downtoground.structures import NoneFound, Structure, structure_of
from downtoground.texts import kinds, order_of, sentence_of
from downtoground.values import is_from

MOST_SIZE = 8


class Theory:
    """Axioms and findings under names, and the edits that can be taken back and done again.

    The state is the pair of the entries (name, sentence, grounds, paper) and the ranks.
    """

    def __init__(self, text=""):
        self._state = ((), ())
        self._done = ()
        self._undone = ()
        self._state = self._state_with(text)

    def _state_with(self, text):
        """The state with the axioms and the ranks of a text, too."""
        axioms = axioms_of(text)
        for name, _ in axioms.pairs:
            if self._has(name):
                raise TakenName(name)
        entries, ranks = self._state
        entries = entries + tuple([(name, sentence, None, None) for name, sentence in axioms.pairs])
        if axioms.ranks is not None:
            ranks = axioms.ranks
        # This tells what is wrong with the sentences together, or with the ranks.
        order_of([entry[1] for entry in entries], ranks)
        return (entries, ranks)

    def _has(self, name):
        return isinstance(name, str) and name in self.names()

    def _entry(self, name):
        if not self._has(name):
            raise NoName(name)
        return self._state[0][self.names().index(name)]

    def _edit(self, state):
        """Goes to a state; that is an edit, if it is another one."""
        if state != self._state:
            self._done = self._done + (self._state,)
            self._undone = ()
            self._state = state

    def put(self, text):
        """Puts the axioms of a text behind all others."""
        self._edit(self._state_with(text))

    def names(self):
        """All names, in order."""
        return tuple([entry[0] for entry in self._state[0]])

    def get(self, name):
        """The sentence of a name."""
        return self._entry(name)[1]

    def grounds(self, name):
        """The names of the grounds of a finding, in order; None for an axiom."""
        return self._entry(name)[2]

    def paper(self, name):
        """The refutation that a finding has as its paper; None for an axiom."""
        return self._entry(name)[3]

    def drop(self, name):
        """Takes a sentence out, if no finding stands on it."""
        dropped = self._entry(name)
        for finding, _, grounds, _ in self._state[0]:
            if grounds is not None and name in grounds:
                raise Needed(name, finding)
        entries = tuple([entry for entry in self._state[0] if entry != dropped])
        things, truths = kinds([entry[1] for entry in entries])
        left = [other for other, _ in things + truths]
        self._edit((entries, tuple([rank for rank in self._state[1] if rank in left])))

    def rename(self, name, new):
        """Gives a sentence a new name."""
        if not is_name(new):
            raise BadName(new)
        self._entry(name)
        if self._has(new):
            raise TakenName(new)
        entries = []
        for other, sentence, grounds, paper in self._state[0]:
            if grounds is not None:
                grounds = tuple([new if ground == name else ground for ground in grounds])
            entries.append((new if other == name else other, sentence, grounds, paper))
        self._edit((tuple(entries), self._state[1]))

    def _sentences(self):
        return [entry[1] for entry in self._state[0]]

    def _order_asked(self, asked, made):
        """The order by which some sentences asked behind those of the theory go."""
        return order_with(order_of(self._sentences() + asked, self._state[1]), made)

    def _settled(self, sentence, steps):
        """What settle tells of all sentences and the negation of one."""
        told = clauses_of(self._sentences() + [("not", sentence)])
        return settle(self._order_asked([sentence], told.made), told.clauses, steps)

    def follows(self, text, steps):
        """What is found of whether a sentence follows."""
        return self._settled(sentence_of(text), steps)

    def finding(self, name, text, steps):
        """Makes a sentence a finding, if it is found to follow; what is found, and the grounds or None."""
        if not is_name(name):
            raise BadName(name)
        if self._has(name):
            raise TakenName(name)
        sentence = sentence_of(text)
        answer = self._settled(sentence, steps)
        if not isinstance(answer, Refuted):
            return (answer, None)
        grounds, paper = self._paper_by(sentence, lines_above(answer.lines, len(answer.lines) - 1))
        self._edit((self._state[0] + ((name, sentence, grounds, paper),), self._state[1]))
        return (answer, grounds)

    def _paper_by(self, sentence, lines):
        """The names of what a refutation stands on, and the refutation from these and the negation alone."""
        sentences = self._sentences() + [("not", sentence)]
        last = len(sentences) - 1
        needed = [index for index in sentences_needed(clauses_of(sentences).counts, lines) if index != last]
        grounds = tuple([self._state[0][index][0] for index in needed])
        return grounds, lines_from(sentences, lines, needed + [last])

    def consistent(self, steps):
        """What settle tells of all sentences."""
        told = clauses_of(self._sentences())
        return settle(self._order_asked([], told.made), told.clauses, steps)

    def parted(self, text, size):
        """A Structure in which all sentences are so, and one is not; or the NoneFound that bars these."""
        sentence = sentence_of(text)
        told = clauses_of(self._sentences() + [("not", sentence)])
        order = self._order_asked([sentence], told.made)
        if not is_from(size, 1) or size > MOST_SIZE:
            raise BadNumber("size", size)
        found = structure_of(order, size, told.clauses)
        if isinstance(found, NoneFound):
            return found
        things, truths = kinds(self._sentences() + [sentence])
        return Structure(size, {name: found.structure.tables[name] for name, _ in things + truths})

    def undo(self):
        """Takes back the last edit that stands."""
        if not self._done:
            raise NothingToUndo()
        self._undone = self._undone + (self._state,)
        self._state = self._done[-1]
        self._done = self._done[:-1]

    def redo(self):
        """Does again the edit that was taken back last."""
        if not self._undone:
            raise NothingToRedo()
        self._done = self._done + (self._state,)
        self._state = self._undone[-1]
        self._undone = self._undone[:-1]

    def attempt(self, action):
        """Calls a function with the theory: all edits of it are one, or none, if it raises an error."""
        state, done, undone = self._state, self._done, self._undone
        self._done, self._undone = (), ()
        is_ended = None
        try:
            told = action(self)
            is_ended = True
        finally:
            if is_ended is None:
                self._state = state
            self._done, self._undone = done, undone
        new = self._state
        self._state = state
        self._edit(new)
        return told

    def trial(self, action):
        """Calls a function with the theory, which is as it was at the end."""
        state, done, undone = self._state, self._done, self._undone
        self._done, self._undone = (), ()
        try:
            return action(self)
        finally:
            self._state, self._done, self._undone = state, done, undone


def is_theory_right(theory):
    """Whether the judge takes each finding's paper for its grounds and its negation."""
    for name in theory.names():
        if theory.paper(name) is not None:
            sentences = [theory.get(ground) for ground in theory.grounds(name)]
            sentences.append(("not", theory.get(name)))
            if not is_refutation(clauses_of(sentences).clauses, theory.paper(name)):
                return False
    return True
