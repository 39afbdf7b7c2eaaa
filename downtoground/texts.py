"""Layer 0: texts of sentences and clauses, and the names in them."""

from downtoground.errors import BadName, BadText, Unbound, Unlike
from downtoground.orders import Order
from downtoground.reading import ClauseReader, SentenceReader
from downtoground.spoken import atoms_of, free_in, spoken_in

LOOSEST = 0
UNIT = 4
# How loose a part may be: by itself, and on either side of it, as [4] reads it.
JOINED = {"same": (0, 1, 1), "then": (1, 2, 1), "or": (2, 2, 3), "and": (3, 3, 4)}


def sentence_of(text):
    """The closed sentence that a text tells."""
    if not isinstance(text, str):
        raise BadText(0)
    sentence = SentenceReader(text).sentence()
    unbound = free_in(sentence)
    if unbound:
        raise Unbound(unbound[0])
    return sentence


def sentence_text(sentence):
    """The plain text of a sentence."""
    pieces = []
    # What waits is a text, or a part with how loose it may be, and whether it is the last one.
    waiting = [(sentence, LOOSEST, True)]
    while waiting:
        item = waiting.pop()
        if isinstance(item, str):
            pieces.append(item)
        else:
            part, level, is_last = item
            waiting.extend(_told(part, level, is_last)[::-1])
    return "".join(pieces)


def _told(part, level, is_last):
    """A list of texts, and of parts that wait in turn, that tell a part."""
    word = part[0]
    if word == "is":
        return [_term_text(part[1])]
    if word == "equal":
        return [_term_text(part[1]), " = ", _term_text(part[2])]
    if word == "not":
        inner = part[1]
        if inner[0] == "equal":
            return [_term_text(inner[1]), " != ", _term_text(inner[2])]
        return ["not ", (inner, UNIT, is_last)]
    if word == "all" or word == "some":
        told = [word + " " + part[1] + ": ", (part[2], LOOSEST, True)]
        return told if is_last else ["("] + told + [")"]
    own, left, right = JOINED[word]
    is_whole = own < level
    told = [(part[1], left, False), " " + word + " ", (part[2], right, is_last or is_whole)]
    return ["("] + told + [")"] if is_whole else told


def _term_text(term):
    """The text of a spoken term, or of a side of a literal."""
    if isinstance(term, str):
        return term
    if isinstance(term, int):
        return "X" + str(term)
    if len(term) == 1:
        return term[0]
    return term[0] + "(" + ", ".join([_term_text(part) for part in term[1:]]) + ")"


def kinds(sentences):
    """The pairs (name, arity) of the things and of the truths of sentences, as they first come."""
    known = {}
    for sentence in sentences:
        for atom, _ in atoms_of(sentence):
            for index, part in enumerate(spoken_in(atom)):
                if isinstance(part, tuple):
                    is_truth = atom[0] == "is" and index == 0
                    kind = (is_truth, len(part) - 1)
                    if known.setdefault(part[0], kind) != kind:
                        raise Unlike(part[0])
    things = tuple((name, known[name][1]) for name in known if not known[name][0])
    truths = tuple((name, known[name][1]) for name in known if known[name][0])
    return (things, truths)


def order_of(sentences, ranks=()):
    """The Order of the names of sentences with the weight 1, those of ranks last."""
    things, truths = kinds(sentences)
    names = [name for name, _ in things + truths]
    ranked = []
    for name in ranks:
        # Any value may stand in ranks: only a string is looked for among the names.
        if not isinstance(name, str) or name not in names or name in ranked:
            raise BadName(name)
        ranked.append(name)
    triples = _ranked_triples(things, ranked)
    if 0 not in [arity for _, arity in things]:
        triples = [(_new_name("nil", names), 0, 1)] + triples
    return Order(triples, _ranked_triples(truths, ranked))


def _ranked_triples(pairs, ranked):
    """The triples of names with the weight 1: those that are not ranked, then the ranked ones."""
    arities = dict(pairs)
    first = [name for name in arities if name not in ranked]
    last = [name for name in ranked if name in arities]
    return [(name, arities[name], 1) for name in first + last]


def _new_name(name, names):
    """The name with so many signs _ behind it that it is none of some names."""
    while name in names:
        name = name + "_"
    return name


def clause_text(clause):
    """The plain text of a clause."""
    if len(clause) == 0:
        return "[]"
    return " | ".join([_literal_text(literal) for literal in clause])


def _literal_text(literal):
    sign, left, right = literal
    if right == ("yes",):
        return _term_text(left) if sign else "not " + _term_text(left)
    return _term_text(left) + (" = " if sign else " != ") + _term_text(right)


def clause_of(text):
    """The clause that a text tells."""
    if not isinstance(text, str):
        raise BadText(0)
    return ClauseReader(text).clause()
