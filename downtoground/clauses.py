"""What stands in a clause, and what is put into it."""

from downtoground.parts import filled, parts_of

YES = ("yes",)


def variables_in(clause):
    """A list of the variables of a clause, or of its great names, in the order in which they first come."""
    known = {}
    for _, left, right in clause:
        for part in parts_of(left) + parts_of(right):
            if not isinstance(part, tuple):
                known[part] = True
    return list(known)


def put_in(clause, table):
    """The clause with a dict's terms in the places of its variables."""
    return tuple([(sign, filled(left, table), filled(right, table)) for sign, left, right in clause])


def plain_names(clause):
    """The clause with plain names."""
    return put_in(clause, {variable: number for number, variable in enumerate(variables_in(clause))})


def shifted(clause, many):
    """The clause with so much added to each variable."""
    return put_in(clause, {variable: variable + many for variable in variables_in(clause)})


def without(clause, index):
    """The clause without the literal at an index."""
    return clause[:index] + clause[index + 1:]


def is_truth(literal):
    """Whether the sides of a literal are truths, and no things."""
    return literal[1] == YES or literal[2] == YES
