"""Layer 2: the order of terms, literals and clauses."""

from downtoground.counting import Counts, ahead_of, counts_to, rows_below, term_with, terms_weighing
from downtoground.errors import BadNumber, BadRow
from downtoground.parts import parts_of
from downtoground.values import is_from

YES = ("yes",)


class Order:
    """Names of things and of truths, each a triple (name, arity, weight), in their places."""

    def __init__(self, things, truths):
        things_read = _triples_of(things, ["yes"])
        if things_read is None or 0 not in [arity for _, arity, _ in things_read]:
            raise BadRow(things)
        truths_read = _triples_of(truths, ["yes"] + [name for name, _, _ in things_read])
        if truths_read is None:
            raise BadRow(truths)
        self.things = things_read
        self.truths = truths_read
        ranked = (("yes", 0, 1),) + things_read + truths_read
        self._weights = {name: weight for name, _, weight in ranked}
        self._places = {name: place for place, (name, _, _) in enumerate(ranked)}


def _triples_of(row, taken):
    """The tuple of the triples of any value; None if it is no row of such with unlike new names."""
    if not isinstance(row, (list, tuple)):
        return None
    names = list(taken)
    triples = []
    for item in row:
        if not _is_triple(item) or item[0] in names:
            return None
        names.append(item[0])
        triples.append(tuple(item))
    return tuple(triples)


def _is_triple(item):
    if not isinstance(item, (list, tuple)) or len(item) != 3:
        return False
    return isinstance(item[0], str) and is_from(item[1], 0) and is_from(item[2], 1)


def weight_of(order, term):
    """The sum of the weights of all names in a term, and 1 for each variable."""
    return _weighed(order, term)[0]


def _weighed(order, term):
    """The weight of a term, and a dict that tells how often each variable stands in it."""
    weight = 0
    often = {}
    for part in parts_of(term):
        if isinstance(part, int):
            weight += 1
            often[part] = often.get(part, 0) + 1
        else:
            weight += order._weights[part[0]]
    return (weight, often)


def compare(order, one, other):
    """Whether a term is "above", "below" or "alike" another one; None if it is none of these."""
    if one == other:
        return "alike"
    one_weight, one_often = _weighed(order, one)
    other_weight, other_often = _weighed(order, other)
    if one_weight == other_weight:
        way = _way_by_names(order, one, other)
    else:
        way = _way(one_weight, other_weight)
    if way == "above" and _has_as_often(one_often, other_often):
        return "above"
    if way == "below" and _has_as_often(other_often, one_often):
        return "below"
    return None


def _way(one, other):
    """The way in which two unlike numbers point."""
    return "above" if one > other else "below"


def _way_by_names(order, one, other):
    """The way in which two unlike terms of one weight point, by their names and arguments."""
    if isinstance(one, int) or isinstance(other, int):
        return None
    if one[0] != other[0]:
        return _way(order._places[one[0]], order._places[other[0]])
    for part, other_part in zip(one[1:], other[1:]):
        if part != other_part:
            return compare(order, part, other_part)
    return None


def _has_as_often(often, least):
    """Whether each variable of a dict stands in another one at least as often."""
    for variable in least:
        if often.get(variable, 0) < least[variable]:
            return False
    return True


def count_of(order, weight):
    """How many ground terms of the order have a weight."""
    return counts_to(order.things, order.truths, weight).weighing(weight)


def place_of(order, term):
    """How many ground terms are below a ground term."""
    if term == YES:
        return 0
    counts = counts_to(order.things, order.truths, weight_of(order, term))
    weight, ahead = ahead_of(counts, term)
    # ("yes",), of the weight 1, is below all others.
    lower = sum(counts.weighing(less) for less in range(1, weight))
    return lower + ahead + (1 if weight == 1 else 0)


def term_at(order, place):
    """The ground term with so many below it; BadNumber if there are not so many."""
    if not is_from(place, 0):
        raise BadNumber("place", place)
    if place == 0:
        return YES
    counts = Counts(order.things, order.truths)
    last = _last_weight(order)
    weight = 0
    left = place
    while last is None or weight < last:
        weight += 1
        counts.grow()
        if left < counts.weighing(weight):
            return term_with(counts, weight, left - (1 if weight == 1 else 0))
        left -= counts.weighing(weight)
    raise BadNumber("place", place)


def _last_weight(order):
    """The greatest weight of a ground term, or None if there is no greatest one."""
    if max([arity for _, arity, _ in order.things]) > 0:
        return None
    heaviest = max([weight for _, _, weight in order.things])
    return max([weight + arity * heaviest for _, arity, weight in order.things + order.truths])


def below(order, term):
    """All ground terms below a ground term, ascending."""
    if term == YES:
        return ()
    weight = weight_of(order, term)
    known, found = _lighter(order, weight)
    names_ahead = (order.things + order.truths)[:order._places[term[0]] - 1]
    found.extend(terms_weighing(names_ahead, known, weight))
    counts = counts_to(order.things, order.truths, weight)
    row = [ahead_of(counts, part) for part in term[1:]]
    for parts in rows_below(known, term[1:], row):
        found.append(term[:1] + parts)
    return tuple(found)


def _lighter(order, weight):
    """Lists of the ground things of each lower weight, and of all ground terms of these weights.

    ("yes",) is among the latter, as it is below all others of its weight, too.
    """
    known = [[]]
    found = [YES]
    for less in range(1, weight):
        things = terms_weighing(order.things, known, less)
        found.extend(things)
        found.extend(terms_weighing(order.truths, known, less))
        known.append(things)
    return known, found


def things_to(order, term):
    """The things among the ground terms to a ground term, it itself with them, ascending."""
    names = {name: True for name, _, _ in order.things}
    return tuple(part for part in below(order, term) + (term,) if part[0] in names)


def compare_literals(order, one, other):
    """Two literals compared by their lots, as compare tells."""
    return _compare_lots(order, _lot_of(one), _lot_of(other), compare)


def compare_clauses(order, one, other):
    """Two clauses compared by their literals, as compare tells."""
    return _compare_lots(order, one, other, compare_literals)


def _lot_of(literal):
    sign, left, right = literal
    return (left, right) if sign else (left, left, right, right)


def _compare_lots(order, ones, others, judged):
    """Two lots compared, judged being the function that compares two items."""
    rest = list(others)
    own = []
    for item in ones:
        twin = _alike_at(order, item, rest, judged)
        if twin is None:
            own.append(item)
        else:
            del rest[twin]
    if not own and not rest:
        return "alike"
    if _are_all_below(order, rest, own, judged):
        return "above"
    if _are_all_below(order, own, rest, judged):
        return "below"
    return None


def _alike_at(order, item, rest, judged):
    """The index of the first item of a list that is alike one, or None."""
    for index, other in enumerate(rest):
        if judged(order, item, other) == "alike":
            return index
    return None


def _are_all_below(order, lower, upper, judged):
    """Whether each item of one list is below some item of another one."""
    for low in lower:
        if not any(judged(order, high, low) == "above" for high in upper):
            return False
    return True


def greatest_at(order, clause, index):
    """Whether no other literal of a clause is above the one at an index."""
    return not _has_other(order, clause, index, ("above",))


def alone_greatest_at(order, clause, index):
    """Whether no other literal of a clause is above the one at an index, or alike."""
    return not _has_other(order, clause, index, ("above", "alike"))


def _has_other(order, clause, index, ways):
    """Whether some other literal of a clause stands in one of the ways to the one at an index."""
    for other, literal in enumerate(clause):
        if other != index and compare_literals(order, literal, clause[index]) in ways:
            return True
    return False
