"""What the tests of sentences reckon by themselves, straight off the document."""

import itertools

from tests.reckoning import rows

THINGS = (("a", 0), ("some1", 0), ("f", 1), ("g", 2))
TRUTHS = (("q", 0), ("p", 1), ("part2", 1), ("r", 2))
GREATS = ("X", "Y", "X2", "X1")
WORDS = ("not", "and", "or", "then", "same", "all", "some")


def drawn_spoken(draw, greats, depth):
    if greats and draw.random() < 0.6:
        return draw.choice(greats)
    name, arity = draw.choice([pair for pair in THINGS if depth > 0 or pair[1] == 0])
    return (name,) + tuple(drawn_spoken(draw, greats, depth - 1) for _ in range(arity))


def drawn_atom(draw, greats):
    if draw.random() < 0.3:
        return ("equal", drawn_spoken(draw, greats, 1), drawn_spoken(draw, greats, 1))
    name, arity = draw.choice(TRUTHS)
    return ("is", (name,) + tuple(drawn_spoken(draw, greats, 1) for _ in range(arity)))


def drawn(draw, greats, words, words_left):
    """A drawn sentence with so many words, its free great names among these."""
    fitting = [word for word in words if words_left > 0 and (word != "same" or words_left < 5)]
    if not fitting:
        return drawn_atom(draw, greats)
    word = draw.choice(fitting)
    if word == "not":
        return (word, drawn(draw, greats, words, words_left - 1))
    if word in ("all", "some"):
        great = draw.choice(GREATS)
        wider = greats if great in greats else greats + (great,)
        return (word, great, drawn(draw, wider, words, words_left - 1))
    left = draw.randint(0, words_left - 1)
    return (word, drawn(draw, greats, words, left), drawn(draw, greats, words, words_left - 1 - left))


def spoken_value(size, tables, term, values):
    if isinstance(term, str):
        return values[term]
    row = tuple(spoken_value(size, tables, part, values) for part in term[1:])
    return tables[term[0]][rows(size, len(row)).index(row)]


def truth(size, tables, sentence, values):
    """Whether a sentence is so, by the cases of [25]."""
    word = sentence[0]
    if word == "is":
        return spoken_value(size, tables, sentence[1], values)
    if word == "equal":
        return len({spoken_value(size, tables, side, values) for side in sentence[1:]}) == 1
    if word in ("all", "some"):
        told = [truth(size, tables, sentence[2], {**values, sentence[1]: element}) for element in range(size)]
        return False not in told if word == "all" else True in told
    told = [truth(size, tables, part, values) for part in sentence[1:]]
    return {"not": lambda: told == [False], "and": lambda: told == [True, True], "or": lambda: told != [False, False],
            "then": lambda: told != [True, False], "same": lambda: told[0] == told[1]}[word]()


def terms_of(sentence):
    """All outer terms of a sentence with the great names bound around them, from the left."""
    if sentence[0] in ("is", "equal"):
        return [(term, ()) for term in sentence[1:]]
    bound = (sentence[1],) if sentence[0] in ("all", "some") else ()
    inner = sentence[2:] if bound else sentence[1:]
    return [(term, bound + around) for part in inner for term, around in terms_of(part)]


def greats_in(term):
    if isinstance(term, str):
        return [term]
    return [great for part in term[1:] for great in greats_in(part)]


def free_greats(sentence):
    found = []
    for term, bound in terms_of(sentence):
        for great in greats_in(term):
            if great not in bound and great not in found:
                found.append(great)
    return found


def names_of(sentence):
    def within(term):
        return [] if isinstance(term, str) else [term[0]] + [name for part in term[1:] for name in within(part)]
    return [name for term, _ in terms_of(sentence) for name in within(term)]


def put_greats(part, table):
    """A sentence or a term with a dict's terms for great names, also those behind all and some."""
    if isinstance(part, str):
        return table.get(part, part)
    return (part[0],) + tuple(put_greats(inner, table) for inner in part[1:])


def without_then_and_same(sentence):
    if sentence[0] in ("is", "equal"):
        return sentence
    if sentence[0] in ("all", "some"):
        return sentence[:2] + (without_then_and_same(sentence[2]),)
    parts = [without_then_and_same(part) for part in sentence[1:]]
    if sentence[0] == "then":
        return ("or", ("not", parts[0]), parts[1])
    if sentence[0] == "same":
        return ("and", ("or", ("not", parts[0]), parts[1]), ("or", ("not", parts[1]), parts[0]))
    return (sentence[0],) + tuple(parts)


def gone_inwards(sentence):
    """A sentence with one not after another gone one word inwards, as long as one can."""
    if sentence[0] in ("is", "equal"):
        return sentence
    if sentence[0] in ("all", "some"):
        return sentence[:2] + (gone_inwards(sentence[2]),)
    if sentence[0] != "not":
        return (sentence[0],) + tuple(gone_inwards(part) for part in sentence[1:])
    inner = sentence[1]
    if inner[0] in ("is", "equal"):
        return sentence
    if inner[0] == "not":
        return gone_inwards(inner[1])
    if inner[0] in ("all", "some"):
        return gone_inwards(({"all": "some", "some": "all"}[inner[0]], inner[1], ("not", inner[2])))
    return gone_inwards(({"and": "or", "or": "and"}[inner[0]], ("not", inner[1]), ("not", inner[2])))


def set_apart(sentence):
    """A closed sentence with the great names of alls and somes as X1, X2, .., from the left."""
    numbers = itertools.count(1)

    def renamed(part, table):
        if part[0] in ("is", "equal"):
            return (part[0],) + tuple(put_greats(term, table) for term in part[1:])
        if part[0] in ("all", "some"):
            great = "X" + str(next(numbers))
            return (part[0], great, renamed(part[2], {**table, part[1]: great}))
        return (part[0],) + tuple(renamed(inner, table) for inner in part[1:])

    return renamed(sentence, {})


def paths_of(sentence):
    """All paths to the parts of a sentence that are sentences, each ahead of those within, from the left."""
    if sentence[0] in ("is", "equal"):
        return [()]
    start = 2 if sentence[0] in ("all", "some") else 1
    return [()] + [(index,) + path for index in range(start, len(sentence)) for path in paths_of(sentence[index])]


def part_at(sentence, path):
    for index in path:
        sentence = sentence[index]
    return sentence


def replaced(sentence, path, new):
    if not path:
        return new
    return sentence[:path[0]] + (replaced(sentence[path[0]], path[1:], new),) + sentence[path[0] + 1:]


def by_numbers(greats):
    return tuple(sorted(greats, key=lambda great: int(great[1:])))


class Clausing:
    """The clauses of sentences, by the words of [27] and [28]: one some, one arm after another."""

    def __init__(self, sentences):
        self.taken = [name for sentence in sentences for name in names_of(sentence)]
        self.made = []
        self.clauses = []
        self.counts = []
        self.forms = []
        for sentence in sentences:
            form = self.open_form(set_apart(gone_inwards(without_then_and_same(sentence))))
            self.forms.append(form)
            own = [clause for clause, _ in self.laid_out(form)]
            self.clauses += [plain_clause(clause) for clause in own]
            self.counts.append(len(own))

    def new(self, word):
        own = [entry[1] for entry in self.made]
        for number in itertools.count(1):
            name = word + str(number)
            if name not in self.taken and name not in own:
                return name

    def open_form(self, sentence):
        while True:
            somes = [path for path in paths_of(sentence) if part_at(sentence, path)[0] == "some"]
            if not somes:
                break
            some = part_at(sentence, somes[0])
            row = by_numbers(free_greats(some))
            name = self.new("some")
            self.made.append(("some", name, row, some[1], some[2]))
            sentence = replaced(sentence, somes[0], put_greats(some[2], {some[1]: (name,) + row}))
        while True:
            alls = [path for path in paths_of(sentence) if part_at(sentence, path)[0] == "all"]
            if not alls:
                return sentence
            sentence = replaced(sentence, alls[0], part_at(sentence, alls[0])[2])

    def laid_out(self, form):
        """Pairs of a clause of great names, and whether the form gives it itself."""
        if form[0] == "and":
            return [pair for part in form[1:] for pair in self.laid_out(part)]
        arms = [form]
        while any(arm[0] == "or" for arm in arms):
            index = [arm[0] for arm in arms].index("or")
            arms[index:index + 1] = arms[index][1:]
        clause = []
        parts = []
        for arm in arms:
            if arm[0] == "and":
                row = by_numbers(free_greats(arm))
                name = self.new("part")
                self.made.append(("part", name, row, arm))
                parts.append(((name,) + row, arm))
                clause.append((True, (name,) + row, ("yes",)))
            else:
                clause.append(literal_of(arm))
        found = [(tuple(clause), True)]
        for atom, arm in parts:
            for inner, own in self.laid_out(arm):
                found.append((((False, atom, ("yes",)),) * own + inner, False))
        return found


def literal_of(arm):
    sign = arm[0] != "not"
    atom = arm if sign else arm[1]
    return (sign, atom[1], ("yes",)) if atom[0] == "is" else (sign,) + atom[1:]


def plain_clause(clause):
    numbers = {}
    for _, left, right in clause:
        for great in greats_in(left) + greats_in(right):
            numbers.setdefault(great, len(numbers))

    def renamed(term):
        return numbers[term] if isinstance(term, str) else (term[0],) + tuple(renamed(part) for part in term[1:])

    return tuple((sign, renamed(left), renamed(right)) for sign, left, right in clause)


def many_ands(form):
    return [part_at(form, path)[0] for path in paths_of(form)].count("and")
