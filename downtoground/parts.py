"""What stands in a term, and where."""


def parts_of(term):
    """A list of all that stands in a term, each as often as it does, in the order of its paths."""
    found = []
    waiting = [term]
    while waiting:
        part = waiting.pop()
        found.append(part)
        if isinstance(part, tuple):
            # The last one put on is taken off first, so the arguments go on from behind.
            waiting.extend(part[:0:-1])
    return found


def places_of(term):
    """A list of all pairs (path, part) of a term, each path ahead of those within it."""
    found = []
    waiting = [((), term)]
    while waiting:
        path, part = waiting.pop()
        found.append((path, part))
        if isinstance(part, tuple):
            for index in range(len(part) - 2, -1, -1):
                waiting.append((path + (index,), part[index + 1]))
    return found


def filled(term, table):
    """The term with a dict's terms in the places of its variables, or great names, all at once."""
    if not isinstance(term, tuple):
        return table.get(term, term)
    return term[:1] + tuple([filled(part, table) for part in term[1:]])


def called(term, table):
    """The term with its names called as a dict tells, where it tells of them."""
    if not isinstance(term, tuple):
        return term
    return (table.get(term[0], term[0]),) + tuple([called(part, table) for part in term[1:]])


def taken_off(done, many):
    """A list of so many last items, the last one first, taken off a list.

    Where parts are gone through from behind, the last item of done is what the first argument came to.
    """
    row = []
    for _ in range(many):
        row.append(done.pop())
    return row
