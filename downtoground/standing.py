"""What a refutation stands on: the sentences whose clauses it needs, and a refutation from these alone."""

from downtoground.parts import called
from downtoground.sentences import clauses_of


def sentences_needed(counts, lines):
    """A list of the indices of those sentences, each with so many clauses, whose clauses lines tell."""
    owners = [index for index, count in enumerate(counts) for _ in range(count)]
    return sorted({owners[step[1]] for step, _ in lines if step[0] == "input"})


def lines_from(sentences, lines, chosen):
    """The lines, which are of the clauses of sentences, as lines of the clauses of chosen ones of these.

    New names have other numbers there, and so have the clauses; the steps stay as they are.
    """
    whole = _owned(sentences, [index for index, _ in enumerate(sentences)])
    own = _owned([sentences[index] for index in chosen], chosen)
    numbers = {number: place for place, pair in enumerate(own[0])
               for number, other in enumerate(whole[0]) if other == pair}
    names = {name: other for name, pair in whole[1] for other, other_pair in own[1] if other_pair == pair}
    found = []
    for step, clause in lines:
        if step[0] == "input":
            step = ("input", numbers[step[1]])
        found.append((step, tuple([(sign, called(left, names), called(right, names)) for sign, left, right in clause])))
    return tuple(found)


def _owned(sentences, owners):
    """A list of a pair for each clause, and one of (new name, such a pair).

    A pair tells the owner of the sentence, and how many clauses or new names of it stand ahead.
    """
    told = clauses_of(sentences)
    pairs = []
    names = []
    for sentence, owner, count in zip(sentences, owners, told.counts):
        pairs.extend([(owner, place) for place in range(count)])
        for place, _ in enumerate(clauses_of([sentence]).made):
            names.append((told.made[len(names)][1], (owner, place)))
    return pairs, names
