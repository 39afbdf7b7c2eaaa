"""Texts of axioms: lines with a name and a sentence, and a line of ranks."""

from downtoground.errors import BadLine, BadText
from downtoground.reading import SentenceReader
from downtoground.scanning import LOWER
from downtoground.spoken import free_in


class Axioms:
    """The pairs (name, sentence) of a text, and the tuple of its ranks; None without a line of ranks."""

    def __init__(self):
        self.pairs = []
        self.ranks = None


def axioms_of(text):
    """The Axioms that a text tells."""
    if not isinstance(text, str):
        raise BadLine(0, 0)
    axioms = Axioms()
    for index, line in enumerate(text.split("\n")):
        try:
            AxiomReader(line).read_into(axioms)
        except BadText as wrong:
            raise BadLine(index + 1, wrong.column)
    return axioms


class AxiomReader(SentenceReader):
    """Reads a line of a text of axioms."""

    def read_into(self, axioms):
        """Puts what the line tells to the axioms of the lines ahead."""
        if self.next_sign() == "":
            return
        start = self.spot
        word = self.small_word()
        is_ended = self.is_at(" :")
        if word == "ranks" and self.next_sign() != ":":
            self.read_ranks(axioms)
            return
        name = self.name_of(word)
        if is_ended and name in [other for other, _ in axioms.pairs]:
            raise BadText(start + 1)
        self.next_sign()
        self.take(":")
        sentence = self.sentence()
        if free_in(sentence):
            raise BadText(len(self.text) + 1)
        axioms.pairs.append((name, sentence))

    def read_ranks(self, axioms):
        """Reads the names behind the word of a line of ranks."""
        names = []
        while self.next_sign() != "" or not names:
            if not self.is_at(LOWER):
                raise BadText(self.spot + 1)
            names.append(self.name_of(self.small_word()))
        if axioms.ranks is not None:
            raise BadText(len(self.text) + 1)
        axioms.ranks = tuple(names)
