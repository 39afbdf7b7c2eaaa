"""The grammars of points [4] and [6], read by plain descent, to hold the program's reading against."""

import re

WORDS = ("all", "some", "not", "and", "or", "then", "same", "yes")
TOKEN = re.compile(r" *(?:([a-z][a-z0-9_]*)|([A-Z][A-Z0-9]*)|(!=|[=(),:|]|\[\]))")
WORD_SIGN = re.compile(r"[A-Za-z0-9_]")


class Wrong(Exception):
    pass


def tokens_of(text):
    """The list of the tokens of a text; Wrong if it has none."""
    found = []
    spot = 0
    while text[spot:].strip(" "):
        token = TOKEN.match(text, spot)
        if not token:
            raise Wrong
        small, great, sign = token.groups()
        spot = token.end()
        if small or great:
            if len(small or great) > (12 if small else 8) or WORD_SIGN.match(text[spot:spot + 1]):
                raise Wrong
        found.append(small or great or sign)
    return found


class Descent:

    def __init__(self, text):
        self.tokens = tokens_of(text)

    def next(self):
        return self.tokens[0] if self.tokens else ""

    def pop(self):
        if not self.tokens:
            raise Wrong
        return self.tokens.pop(0)

    def want(self, token):
        if self.pop() != token:
            raise Wrong

    def term(self):
        head = self.pop()
        if head[0].isupper():
            return self.great(head)
        if not head[0].islower() or head in WORDS:
            raise Wrong
        parts = [head]
        if self.next() == "(":
            self.pop()
            parts.append(self.term())
            while self.next() == ",":
                self.pop()
                parts.append(self.term())
            self.want(")")
        return tuple(parts)


class SentenceDescent(Descent):

    def great(self, head):
        return head

    def whole(self):
        told = self.sentence()
        if self.tokens:
            raise Wrong
        return told

    def sentence(self):
        left = self.then()
        if self.next() == "same":
            self.pop()
            return ("same", left, self.then())
        return left

    def then(self):
        left = self.row("or", lambda: self.row("and", self.unit))
        if self.next() == "then":
            self.pop()
            return ("then", left, self.then())
        return left

    def row(self, word, part):
        left = part()
        while self.next() == word:
            self.pop()
            left = (word, left, part())
        return left

    def unit(self):
        if self.next() == "not":
            self.pop()
            return ("not", self.unit())
        if self.next() in ("all", "some"):
            return self.quantified()
        if self.next() == "(":
            self.pop()
            told = self.sentence()
            self.want(")")
            return told
        left = self.term()
        if self.next() in ("=", "!="):
            sign = self.pop()
            told = ("equal", left, self.term())
            return told if sign == "=" else ("not", told)
        if isinstance(left, str):
            raise Wrong
        return ("is", left)

    def quantified(self):
        word = self.pop()
        greats = []
        while self.next() != ":":
            greats.append(self.pop())
            if not greats[-1][0].isupper():
                raise Wrong
        self.want(":")
        if not greats:
            raise Wrong
        told = self.sentence()
        for great in reversed(greats):
            told = (word, great, told)
        return told


class ClauseDescent(Descent):

    def great(self, head):
        if not re.fullmatch("X(0|[1-9][0-9]{0,6})", head):
            raise Wrong
        return int(head[1:])

    def whole(self):
        if self.tokens == ["[]"]:
            return ()
        literals = [self.literal()]
        while self.tokens:
            self.want("|")
            literals.append(self.literal())
        return tuple(literals)

    def side(self):
        if self.next() == "yes":
            return (self.pop(),)
        return self.term()

    def literal(self):
        if self.next() == "not":
            self.pop()
            left = self.side()
            if isinstance(left, int):
                raise Wrong
            return (False, left, ("yes",))
        left = self.side()
        if self.next() in ("=", "!="):
            return (self.pop() == "=", left, self.side())
        if isinstance(left, int):
            raise Wrong
        return (True, left, ("yes",))


def read(kind, text):
    """What a text tells by a grammar, or None."""
    try:
        return kind(text).whole()
    except Wrong:
        return None


def can_begin(kind, piece):
    """Whether some text that the grammar has begins with a piece: so many ends are tried."""
    run = re.search("[a-z0-9_]*$", piece).group()
    words = ["", "z", "=", "]"] + [word[len(run):] for word in WORDS if word.startswith(run)]
    tails = ["", "p", " p", "=p", "= p", "p=p", ":p", "X:p", " X:p", "0=p", "0"]
    for word in words:
        for tail in tails:
            end = word + tail
            for closing in {")" * (piece.count("(") - piece.count(")")), ""}:
                if read(kind, piece + end + closing) is not None:
                    return True
    return False


def is_first_wrong(kind, text, column):
    """Whether a text that is not right is so up to the column alone."""
    begun = column - 1
    if not 0 <= begun <= len(text) or not can_begin(kind, text[:begun]):
        return False
    return begun == len(text) or not can_begin(kind, text[:begun + 1])
