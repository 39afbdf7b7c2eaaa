"""Layer 2: the order of terms, literals and clauses."""

from downtoground.counting import Counts, ahead_of, counts_to, rows_below, term_with, terms_weighing
from downtoground.errors import BadNumber, BadRow
from downtoground.values import is_from

YES = ("yes",)


class Order:
    """Names of things and of truths, each a triple (name, arity, weight), in their places."""

    def __init__(self, things, truths):
        things_read = _triples_of(things, ["yes"])
        if things_read is None or 0 not in [arity for _, arity, _ in things_read]:
            raise BadRow(things)
        truths_read = _triples_of(truths, ["yes"] + [name for name, _, _ in things_read])
        if truths_read is None:
            raise BadRow(truths)
        self.things = things_read
        self.truths = truths_read
        ranked = (("yes", 0, 1),) + things_read + truths_read
        self._weights = {name: weight for name, _, weight in ranked}
        self._places = {name: place for place, (name, _, _) in enumerate(ranked)}


def _triples_of(row, taken):
    """The tuple of the triples of any value; None if it is no row of such with unlike new names."""
    if not isinstance(row, (list, tuple)):
        return None
    names = list(taken)
    triples = []
    for item in row:
        if not _is_triple(item) or item[0] in names:
            return None
        names.append(item[0])
        triples.append(tuple(item))
    return tuple(triples)


def _is_triple(item):
    if not isinstance(item, (list, tuple)) or len(item) != 3:
        return False
    return isinstance(item[0], str) and is_from(item[1], 0) and is_from(item[2], 1)


def weight_of(order, term):
    """The sum of the weights of all names in a term, and 1 for each variable."""
    return _weighed(order, term)[0]


def _weighed(order, term):
    """The weight of a term, and a dict that tells how often each variable stands in it."""
    weight = 0
    often = {}
    waiting = [term]
    while waiting:
        part = waiting.pop()
        if isinstance(part, int):
            weight += 1
            often[part] = often.get(part, 0) + 1
        else:
            weight += order._weights[part[0]]
            waiting.extend(part[1:])
    return (weight, often)


def compare(order, one, other):
    """Whether a term is "above", "below" or "alike" another one; None if it is none of these."""
    may_be_above = True
    may_be_below = True
    while one != other:
        one_weight, one_often = _weighed(order, one)
        other_weight, other_often = _weighed(order, other)
        may_be_above = may_be_above and _has_as_often(one_often, other_often)
        may_be_below = may_be_below and _has_as_often(other_often, one_often)
        way = _way_by_heads(order, (one_weight, one), (other_weight, other))
        if way is not None:
            return way if (may_be_above if way == "above" else may_be_below) else None
        if isinstance(one, int) or isinstance(other, int):
            return None
        # All is as it is between the first unlike arguments, but for the variables around them.
        one, other = _first_unlike(one, other)
    return "alike"


def is_above(order, one, other):
    """Whether compare tells "above" of two terms."""
    while one != other and not isinstance(one, int):
        one_weight, one_often = _weighed(order, one)
        other_weight, other_often = _weighed(order, other)
        if one_weight < other_weight or not _has_as_often(one_often, other_often):
            return False
        if one_weight > other_weight:
            return True
        if isinstance(other, int) or one[0] != other[0]:
            return not isinstance(other, int) and order._places[one[0]] > order._places[other[0]]
        one, other = _first_unlike(one, other)
    return False


def is_even(order, one, other):
    """Whether two terms that are no variables have one name, one weight and the same variables."""
    if isinstance(one, int) or isinstance(other, int) or one[0] != other[0]:
        return False
    return _weighed(order, one) == _weighed(order, other)


def is_above_evenly(order, one, other):
    """What is_above tells of two terms that are even: that takes but a look at their arguments."""
    if one == other:
        return False
    left, right = _first_unlike(one, other)
    return is_above(order, left, right)


def _first_unlike(one, other):
    """The first unlike arguments of two unlike terms with one name."""
    index = 1
    while one[index] == other[index]:
        index += 1
    return one[index], other[index]


def _way_by_heads(order, one, other):
    """The way in which the weights of two terms point, or else their names; None if neither does."""
    if one[0] != other[0]:
        return _way(one[0], other[0])
    if isinstance(one[1], int) or isinstance(other[1], int) or one[1][0] == other[1][0]:
        return None
    return _way(order._places[one[1][0]], order._places[other[1][0]])


def _way(one, other):
    """The way in which two unlike numbers point."""
    return "above" if one > other else "below"


def _has_as_often(often, least):
    """Whether each variable of a dict stands in another one at least as often."""
    for variable in least:
        if often.get(variable, 0) < least[variable]:
            return False
    return True


def count_of(order, weight):
    """How many ground terms of the order have a weight."""
    return counts_to(order.things, order.truths, weight).weighing(weight)


def place_of(order, term):
    """How many ground terms are below a ground term."""
    if term == YES:
        return 0
    counts = counts_to(order.things, order.truths, weight_of(order, term))
    weight, ahead = ahead_of(counts, term)
    # ("yes",), of the weight 1, is below all others.
    lower = sum(counts.weighing(less) for less in range(1, weight))
    return lower + ahead + (1 if weight == 1 else 0)


def term_at(order, place):
    """The ground term with so many below it; BadNumber if there are not so many."""
    if not is_from(place, 0):
        raise BadNumber("place", place)
    if place == 0:
        return YES
    counts = Counts(order.things, order.truths)
    last = _last_weight(order)
    weight = 0
    left = place
    while last is None or weight < last:
        weight += 1
        counts.grow()
        if left < counts.weighing(weight):
            return term_with(counts, weight, left - (1 if weight == 1 else 0))
        left -= counts.weighing(weight)
    raise BadNumber("place", place)


def _last_weight(order):
    """The greatest weight of a ground term, or None if there is no greatest one."""
    if max([arity for _, arity, _ in order.things]) > 0:
        return None
    heaviest = max([weight for _, _, weight in order.things])
    return max([weight + arity * heaviest for _, arity, weight in order.things + order.truths])


def below(order, term):
    """All ground terms below a ground term, ascending."""
    if term == YES:
        return ()
    weight = weight_of(order, term)
    known, found = _lighter(order, weight)
    names_ahead = (order.things + order.truths)[:order._places[term[0]] - 1]
    found.extend(terms_weighing(names_ahead, known, weight))
    counts = counts_to(order.things, order.truths, weight)
    row = [ahead_of(counts, part) for part in term[1:]]
    for parts in rows_below(known, term[1:], row):
        found.append(term[:1] + parts)
    return tuple(found)


def _lighter(order, weight):
    """Lists of the ground things of each lower weight, and of all ground terms of these weights.

    ("yes",) is among the latter, as it is below all others of its weight, too.
    """
    known = [[]]
    found = [YES]
    for less in range(1, weight):
        things = terms_weighing(order.things, known, less)
        found.extend(things)
        found.extend(terms_weighing(order.truths, known, less))
        known.append(things)
    return known, found


def things_to(order, term):
    """The things among the ground terms to a ground term, it itself with them, ascending."""
    names = {name: True for name, _, _ in order.things}
    return tuple(part for part in below(order, term) + (term,) if part[0] in names)


def compare_literals(order, one, other):
    """Two literals compared by their lots, as compare tells."""
    own, rest = _struck_out(_lot_of(one), _lot_of(other), _are_equal, order)
    # A term that stands twice in a lot tells no more than once.
    return _way_of_lots(order, _each_once(own), _each_once(rest), compare)


def compare_clauses(order, one, other):
    """Two clauses compared by their literals, as compare tells."""
    own, rest = _struck_out(one, other, _are_alike, order)
    return _way_of_lots(order, own, rest, compare_literals)


def _lot_of(literal):
    sign, left, right = literal
    return (left, right) if sign else (left, left, right, right)


def _are_equal(order, one, other):
    return one == other


def _are_alike(order, one, other):
    return compare_literals(order, one, other) == "alike"


def _struck_out(ones, others, are_alike, order):
    """Lists of what is left of two lots when alike items are struck out, one for one."""
    rest = list(others)
    own = []
    for item in ones:
        twins = [index for index, other in enumerate(rest) if are_alike(order, item, other)]
        if twins:
            del rest[twins[0]]
        else:
            own.append(item)
    return own, rest


def _each_once(row):
    found = []
    for item in row:
        if item not in found:
            found.append(item)
    return found


def _way_of_lots(order, own, rest, judged):
    """What is left of two lots compared, judged being the function that compares two items."""
    if not own and not rest:
        return "alike"
    if _are_all_below(order, rest, own, judged):
        return "above"
    if _are_all_below(order, own, rest, judged):
        return "below"
    return None


def _are_all_below(order, lower, upper, judged):
    """Whether each item of one list is below some item of another one."""
    for low in lower:
        if not any(judged(order, high, low) == "above" for high in upper):
            return False
    return True


def greatest_at(order, clause, index):
    """Whether no other literal of a clause is above the one at an index."""
    return not _has_other(order, clause, index, ("above",))


def alone_greatest_at(order, clause, index):
    """Whether no other literal of a clause is above the one at an index, or alike."""
    return not _has_other(order, clause, index, ("above", "alike"))


def _has_other(order, clause, index, ways):
    """Whether some other literal of a clause stands in one of the ways to the one at an index."""
    for other, literal in enumerate(clause):
        if other != index and compare_literals(order, literal, clause[index]) in ways:
            return True
    return False
