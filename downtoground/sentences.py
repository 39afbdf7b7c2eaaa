"""Layer 4: sentences to clauses, and back."""

from downtoground.opening import Naming, clauses_from, opened
from downtoground.orders import Order
from downtoground.parts import filled
from downtoground.spoken import free_in
from downtoground.structures import Structure, value_in
from downtoground.values import all_rows, kept


def free(sentence):
    """The free great names of a sentence, in the order in which they first come."""
    return tuple(free_in(sentence))


def meaning(structure, sentence, values):
    """Whether a sentence is so in a structure, by the values of its free great names."""
    word = sentence[0]
    if word == "is":
        return value_in(structure, sentence[1], values)
    if word == "equal":
        return value_in(structure, sentence[1], values) == value_in(structure, sentence[2], values)
    if word == "not":
        return not meaning(structure, sentence[1], values)
    if word == "all" or word == "some":
        return _meaning_for_each(structure, sentence, values)
    left = meaning(structure, sentence[1], values)
    if word == "and" or word == "then":
        # Where the first part is false, an and is false, and a then is so.
        return meaning(structure, sentence[2], values) if left else word == "then"
    if word == "or":
        return left or meaning(structure, sentence[2], values)
    return left == meaning(structure, sentence[2], values)


def _meaning_for_each(structure, sentence, values):
    word, great, inner = sentence
    wider = dict(values)
    for element in range(structure.size):
        wider[great] = element
        if meaning(structure, inner, wider) == (word == "some"):
            return word == "some"
    return word == "all"


def is_so(structure, sentence):
    """Whether a closed sentence is so in a structure."""
    return meaning(structure, sentence, {})


def plain(sentence):
    """The sentence without then and same."""
    word = sentence[0]
    if word == "is" or word == "equal":
        return sentence
    if word == "all" or word == "some":
        return (word, sentence[1], plain(sentence[2]))
    parts = tuple([plain(part) for part in sentence[1:]])
    if word == "then":
        return _then(parts[0], parts[1])
    if word == "same":
        return ("and", _then(parts[0], parts[1]), _then(parts[1], parts[0]))
    return (word,) + parts


def _then(left, right):
    return ("or", ("not", left), right)


def inwards(sentence):
    """The sentence, which has no then and same, with not only just ahead of an is or equal."""
    word = sentence[0]
    if word == "not":
        return _turned(sentence[1])
    if word == "and" or word == "or":
        return (word, inwards(sentence[1]), inwards(sentence[2]))
    if word == "all" or word == "some":
        return (word, sentence[1], inwards(sentence[2]))
    return sentence


def _turned(sentence):
    """The not of a sentence, gone inwards."""
    word = sentence[0]
    if word == "not":
        return inwards(sentence[1])
    if word == "and" or word == "or":
        return ("or" if word == "and" else "and", _turned(sentence[1]), _turned(sentence[2]))
    if word == "all" or word == "some":
        return ("some" if word == "all" else "all", sentence[1], _turned(sentence[2]))
    return ("not", sentence)


def apart(sentence):
    """The closed sentence with the great names X1, X2, .. of its alls and somes, from the left."""
    return _apart(sentence, {}, 0)[0]


def _apart(sentence, table, many):
    """The sentence with a dict's great names in it, and how many alls and somes have begun behind it."""
    word = sentence[0]
    if word == "is" or word == "equal":
        return (word,) + tuple([filled(term, table) for term in sentence[1:]]), many
    if word == "all" or word == "some":
        great = "X" + str(many + 1)
        inner, many = _apart(sentence[2], {**table, sentence[1]: great}, many + 1)
        return (word, great, inner), many
    told = (word,)
    for part in sentence[1:]:
        part, many = _apart(part, table, many)
        told = told + (part,)
    return told, many


class Clauses:
    """The clauses of sentences, how many each sentence has, and a row for each new name in them."""

    def __init__(self, clauses, counts, made):
        self.clauses = kept(clauses)
        self.counts = kept(counts)
        self.made = kept(made)


def clauses_of(sentences):
    """The Clauses of closed sentences."""
    naming = Naming(sentences)
    clauses = []
    counts = []
    for sentence in sentences:
        own = clauses_from(opened(apart(inwards(plain(sentence))), naming), naming)
        clauses.extend(own)
        counts.append(len(own))
    return Clauses(tuple(clauses), tuple(counts), tuple(naming.made))


def order_with(order, made):
    """The Order with the new things and the new truths behind its own, with the weight 1."""
    things = [(entry[1], len(entry[2]), 1) for entry in made if entry[0] == "some"]
    truths = [(entry[1], len(entry[2]), 1) for entry in made if entry[0] == "part"]
    return Order(order.things + tuple(things), order.truths + tuple(truths))


def tables_for(structure, made):
    """The Structure with a table for each new name, too."""
    tables = dict(structure.tables)
    for entry in made:
        known = Structure(structure.size, dict(tables))
        tables[entry[1]] = tuple([_worth(known, entry, row) for row in all_rows(structure.size, len(entry[2]))])
    return Structure(structure.size, tables)


def _worth(structure, entry, row):
    """What a new name tells of a row of elements."""
    values = dict(zip(entry[2], row))
    if entry[0] == "part":
        return meaning(structure, entry[3], values)
    for element in range(structure.size):
        values[entry[3]] = element
        if meaning(structure, entry[4], values):
            return element
    return 0
