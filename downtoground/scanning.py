"""A text read from the left up to its first wrong character: words, and the terms made of them."""

from downtoground.errors import BadText

LOWER = "abcdefghijklmnopqrstuvwxyz"
UPPER = "ABCDEFGHIJKLMNOPQRSTUVWXYZ"
DIGITS = "0123456789"
WORD_SIGNS = "abcdefghijklmnopqrstuvwxyzABCDEFGHIJKLMNOPQRSTUVWXYZ0123456789_"
NO_NAMES = ("all", "some", "not", "and", "or", "then", "same", "yes")
LONGEST_NAME = 12
LONGEST_GREAT_NAME = 8


class Reader:
    """A text, and the spot up to which it is read.

    All that is read is a beginning of some right text: so where nothing right can go on, the
    character at the spot is the first wrong one.
    """

    def __init__(self, text):
        self.text = text
        self.spot = 0

    def sign(self):
        """The character at the spot, or "" at the end."""
        return self.text[self.spot:self.spot + 1]

    def next_sign(self):
        """The next character that is no space, or "" at the end; the spot goes on to it."""
        while self.sign() == " ":
            self.spot += 1
        return self.sign()

    def is_at(self, signs):
        """Whether the character at the spot is one of a string of signs."""
        # At the end the sign is "", which lies within each string.
        return self.sign() != "" and self.sign() in signs

    def take(self, sign):
        """Reads this very sign."""
        if self.sign() != sign:
            raise BadText(self.spot + 1)
        self.spot += 1

    def end_word(self):
        """Sees to it that no other word stands at the spot, right behind one."""
        if self.is_at(WORD_SIGNS):
            raise BadText(self.spot + 1)

    def run(self, signs, most):
        """Reads a word of at most so many of the signs."""
        start = self.spot
        while self.is_at(signs) and self.spot < start + most:
            self.spot += 1
        self.end_word()
        return self.text[start:self.spot]

    def small_word(self):
        """Reads a name, or a word that stands in the place of one."""
        if not self.is_at(LOWER):
            raise BadText(self.spot + 1)
        return self.run(LOWER + DIGITS + "_", LONGEST_NAME)

    def name_of(self, word):
        """The word that was just read, as a name."""
        if word in NO_NAMES:
            # A longer word that begins so may be a name: what is wrong is that it ends here.
            raise BadText(self.spot + 1)
        return word

    def great(self):
        """Reads a great name."""
        return self.run(UPPER + DIGITS, LONGEST_GREAT_NAME)

    def head(self):
        """Reads a great name, or a name as the tuple of it alone."""
        self.next_sign()
        if self.is_at(UPPER):
            return self.great()
        return (self.name_of(self.small_word()),)

    def term(self):
        """Reads a term."""
        return self.whole(self.head())

    def whole(self, part):
        """Reads the rest of the term that begins with a head."""
        begun = []
        while self.has_arguments(part) or begun:
            if self.has_arguments(part):
                self.spot += 1
                begun.append([part[0]])
                part = self.head()
                continue
            begun[-1].append(part)
            if self.next_sign() == ")":
                self.spot += 1
                part = tuple(begun.pop())
            else:
                self.take(",")
                part = self.head()
        return part

    def has_arguments(self, part):
        """Whether the part that was just read is a name with its arguments behind it."""
        return isinstance(part, tuple) and len(part) == 1 and self.next_sign() == "("


def is_name(value):
    """Whether any value is a name."""
    if not isinstance(value, str) or value in NO_NAMES or len(value) not in range(1, LONGEST_NAME + 1):
        return False
    return value[0] in LOWER and all([sign in LOWER + DIGITS + "_" for sign in value])
