"""What stands in a term, and where."""


def parts_of(term):
    """A list of all that stands in a term, each as often as it does, in the order of its paths."""
    found = []
    waiting = [term]
    while waiting:
        part = waiting.pop()
        found.append(part)
        if isinstance(part, tuple):
            # The last one put on is taken off first, so the arguments go on from behind.
            waiting.extend(part[:0:-1])
    return found


def places_of(term):
    """A list of all pairs (path, part) of a term, each path ahead of those within it."""
    found = []
    waiting = [((), term)]
    while waiting:
        path, part = waiting.pop()
        found.append((path, part))
        if isinstance(part, tuple):
            for index in range(len(part) - 2, -1, -1):
                waiting.append((path + (index,), part[index + 1]))
    return found
