"""Sentences and clauses read from their texts."""

from downtoground.errors import BadText
from downtoground.scanning import DIGITS, UPPER, Reader

# The looser ones have the lower numbers.
LEVELS = {"same": 0, "then": 1, "or": 2, "and": 3}
YES = ("yes",)
MOST_DIGITS = 7


class SentenceReader(Reader):
    """Reads a sentence; no call goes as deep as the sentence.

    `done` are the sentences that wait for what joins them, `begun` what was read ahead of them and
    is not put together yet: ("(",), ("not",), the joining words, and all and some with great names.
    """

    def __init__(self, text):
        super().__init__(text)
        self.done = []
        self.begun = []

    def sentence(self):
        """The sentence that the whole text tells."""
        self.unit()
        while self.goes_on():
            self.unit()
        return self.done[0]

    def unit(self):
        """Reads an atom with all that stands ahead of it."""
        head = None
        while head is None:
            head = self.head_of_unit()
        self.done.append(self.atom(self.whole(head)))

    def head_of_unit(self):
        """Reads the head of an atom, or one thing that stands ahead of it: then None is told."""
        if self.next_sign() == "(":
            self.spot += 1
            self.begun.append(("(",))
            return None
        if self.is_at(UPPER):
            return self.great()
        word = self.small_word()
        if word == "not":
            self.begun.append(("not",))
            return None
        if word == "all" or word == "some":
            self.bind(word)
            return None
        return (self.name_of(word),)

    def bind(self, word):
        """Reads the great names behind an all or some, and the sign behind them."""
        self.next_sign()
        if not self.is_at(UPPER):
            raise BadText(self.spot + 1)
        greats = []
        while self.is_at(UPPER):
            greats.append(self.great())
            self.next_sign()
        self.take(":")
        # They are one QUANTIFIED, with one SENTENCE: one same may stand in it, not one for each name.
        self.begun.append((word, greats))

    def atom(self, left):
        """Reads the rest of an atom behind its first term."""
        sign = self.next_sign()
        if sign == "=":
            self.spot += 1
            return ("equal", left, self.term())
        if sign == "!":
            self.spot += 1
            self.take("=")
            return ("not", ("equal", left, self.term()))
        if isinstance(left, str):
            raise BadText(self.spot + 1)
        return ("is", left)

    def goes_on(self):
        """Reads the brackets behind an atom and a joining word; at the end False is told."""
        while self.next_sign() == ")":
            self.close()
        if self.sign() == "":
            self.fold_all()
            if self.begun:
                raise BadText(self.spot + 1)
            return False
        self.add_word(self.joining_word())
        return True

    def close(self):
        """Reads the bracket that ends the innermost one that is begun."""
        self.fold_all()
        if not self.begun:
            raise BadText(self.spot + 1)
        self.begun.pop()
        self.spot += 1

    def top(self):
        """The word or bracket that was begun last, or ""."""
        return self.begun[-1][0] if self.begun else ""

    def fold(self):
        """Puts together what was begun last, and no bracket."""
        item = self.begun.pop()
        right = self.done.pop()
        if item[0] in LEVELS:
            right = (item[0], self.done.pop(), right)
        elif item[0] == "not":
            right = ("not", right)
        else:
            for great in reversed(item[1]):
                right = (item[0], great, right)
        self.done.append(right)

    def fold_all(self):
        """Puts together all that was begun within the innermost bracket."""
        while self.begun and self.top() != "(":
            self.fold()

    def joining_word(self):
        """Reads an and, or or then, or a same where one may stand."""
        words = ["and", "or", "then"] + (["same"] if self.may_be_same() else [])
        start = self.spot
        while self.sign() != "" and _begins_one(words, self.text[start:self.spot + 1]):
            self.spot += 1
        word = self.text[start:self.spot]
        if word not in words:
            raise BadText(self.spot + 1)
        self.end_word()
        return word

    def may_be_same(self):
        """Whether a same may stand here: one in the whole, one in each bracket and each all or some."""
        left = 1
        for item in reversed(self.begun):
            if item[0] == "(":
                break
            if item[0] == "same":
                left -= 1
            elif len(item) == 2:
                left += 1
        return left > 0

    def add_word(self, word):
        """Puts together all that a joining word is looser than, and begins what it joins."""
        while self.is_folded_by(word):
            closes = self.top() == "same"
            self.fold()
            if closes:
                # A second same is one behind the all or some in which the first one stands.
                self.fold()
        self.begun.append((word,))

    def is_folded_by(self, word):
        """Whether what was begun last goes no further where this word stands."""
        top = self.top()
        if top == "not":
            return True
        if top == word:
            return word != "then"
        return top in LEVELS and LEVELS[top] > LEVELS[word]


def _begins_one(words, piece):
    """Whether a piece of a text is a beginning of one of some words."""
    return any([word.startswith(piece) for word in words])


class ClauseReader(Reader):
    """Reads a clause. Its great names are variables."""

    def clause(self):
        """The clause that the whole text tells."""
        if self.next_sign() == "[":
            self.spot += 1
            self.take("]")
            self.end_text()
            return ()
        literals = [self.literal()]
        while self.next_sign() == "|":
            self.spot += 1
            literals.append(self.literal())
        self.end_text()
        return tuple(literals)

    def end_text(self):
        """Sees to it that nothing but spaces is left."""
        if self.next_sign() != "":
            raise BadText(self.spot + 1)

    def literal(self):
        """Reads a literal."""
        self.next_sign()
        if self.is_at(UPPER):
            return self.equation(self.great())
        word = self.small_word()
        if word != "not":
            return self.equation(self.side_behind(word))
        self.next_sign()
        return (False, self.side_behind(self.small_word()), YES)

    def side_behind(self, word):
        """Reads the rest of the side that begins with a word."""
        return YES if word == "yes" else self.whole((self.name_of(word),))

    def side(self):
        """Reads a side of an equation."""
        self.next_sign()
        return self.great() if self.is_at(UPPER) else self.side_behind(self.small_word())

    def equation(self, left):
        """Reads the rest of a literal behind its first side."""
        sign = self.next_sign()
        if sign == "=":
            self.spot += 1
            return (True, left, self.side())
        if sign == "!":
            self.spot += 1
            self.take("=")
            return (False, left, self.side())
        if isinstance(left, int):
            raise BadText(self.spot + 1)
        return (True, left, YES)

    def great(self):
        """Reads a variable."""
        self.take("X")
        if not self.is_at(DIGITS):
            raise BadText(self.spot + 1)
        return int(self.run(DIGITS, 1 if self.sign() == "0" else MOST_DIGITS))
