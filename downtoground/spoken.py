"""What stands in a sentence, from the left, and what is put into it."""

from downtoground.parts import filled, parts_of


def atoms_of(sentence):
    """A list of pairs: each part that is an is or equal, and the great names bound around it."""
    found = []
    waiting = [(sentence, ())]
    while waiting:
        part, bound = waiting.pop()
        if part[0] == "is" or part[0] == "equal":
            found.append((part, bound))
        elif part[0] == "all" or part[0] == "some":
            waiting.append((part[2], bound + (part[1],)))
        else:
            for inner in reversed(part[1:]):
                waiting.append((inner, bound))
    return found


def spoken_in(atom):
    """A list of all that stands in the terms of an atom: terms, and great names."""
    return [part for term in atom[1:] for part in parts_of(term)]


def free_in(sentence):
    """A list of the free great names of a sentence, in the order in which they first come so."""
    found = {}
    for atom, bound in atoms_of(sentence):
        for part in spoken_in(atom):
            if isinstance(part, str) and part not in bound:
                found[part] = True
    return list(found)


def names_in(sentence):
    """A list of the names in a sentence, as they come."""
    return [part[0] for atom, _ in atoms_of(sentence) for part in spoken_in(atom) if isinstance(part, tuple)]


def put_within(sentence, table):
    """The sentence with a dict's terms in the places of great names.

    None of those is bound in it, nor is one that stands in these terms.
    """
    word = sentence[0]
    if word == "is" or word == "equal":
        return (word,) + tuple([filled(term, table) for term in sentence[1:]])
    if word == "all" or word == "some":
        return (word, sentence[1], put_within(sentence[2], table))
    return (word,) + tuple([put_within(part, table) for part in sentence[1:]])
