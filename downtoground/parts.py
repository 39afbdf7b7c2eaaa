"""What stands in a term, and where."""


def parts_of(term):
    """A list of all that stands in a term, each as often as it does, in the order of its paths."""
    found = []
    waiting = [term]
    while waiting:
        part = waiting.pop()
        found.append(part)
        if isinstance(part, tuple):
            # The last one put on is taken off first, so the arguments go on from behind.
            waiting.extend(part[:0:-1])
    return found


def places_of(term):
    """A list of all pairs (path, part) of a term, each path ahead of those within it."""
    found = []
    waiting = [((), term)]
    while waiting:
        path, part = waiting.pop()
        found.append((path, part))
        if isinstance(part, tuple):
            for index in range(len(part) - 2, -1, -1):
                waiting.append((path + (index,), part[index + 1]))
    return found


def taken_off(done, many):
    """A list of so many last items, the last one first, taken off a list.

    Where parts are gone through from behind, the last item of done is what the first argument came to.
    """
    row = []
    for _ in range(many):
        row.append(done.pop())
    return row
