"""What stands in a sentence, from the left. No call goes as deep as the sentence."""

from downtoground.parts import parts_of


def atoms_of(sentence):
    """A list of pairs: each part that is an is or equal, and the great names bound around it."""
    found = []
    waiting = [(sentence, ())]
    while waiting:
        part, bound = waiting.pop()
        if part[0] == "is" or part[0] == "equal":
            found.append((part, bound))
        elif part[0] == "all" or part[0] == "some":
            waiting.append((part[2], bound + (part[1],)))
        else:
            for inner in reversed(part[1:]):
                waiting.append((inner, bound))
    return found


def spoken_in(atom):
    """A list of all that stands in the terms of an atom: terms, and great names."""
    return [part for term in atom[1:] for part in parts_of(term)]


def first_unbound(sentence):
    """The first great name in a term that is not bound, or None."""
    for atom, bound in atoms_of(sentence):
        for part in spoken_in(atom):
            if isinstance(part, str) and part not in bound:
                return part
    return None
