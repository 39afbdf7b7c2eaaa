"""Layer 8: the search, step by step."""

from downtoground.covering import Covering
from downtoground.errors import BadNumber
from downtoground.lines import are_lines, input_line, needs_of, renumbered
from downtoground.meeting import Meeting
from downtoground.needless import paper_for
from downtoground.stepping import Stepping
from downtoground.steps import all_steps
from downtoground.values import is_below, is_from, kept

MOST_STEPS = 1000


def lines_above(lines, index):
    """The lines that the line at an index needs, it itself the last one, numbered anew."""
    needed = {index: True}
    for number in range(index, -1, -1):
        if number in needed:
            for above in needs_of(lines[number][0]):
                needed[above] = True
    places = {number: place for place, number in enumerate(sorted(needed))}
    return tuple([(renumbered(lines[number][0], places), lines[number][1]) for number in places])


class Loop:
    """Lines of clauses, those of them that wait to be worked, and those that are kept."""

    def __init__(self, order, clauses):
        self.order = kept(order)
        self.clauses = kept(clauses)
        self.lines = tuple([input_line(self.clauses, n) for n in range(len(self.clauses))])
        self.waiting = tuple(range(len(self.lines)))
        self.kept = ()
        self.spent = 0


def _changed(loop, lines, waiting, keeping, spent):
    """A Loop of the same clauses with other lines."""
    new = Loop(loop.order, loop.clauses)
    new.lines = tuple(lines)
    new.waiting = tuple(sorted(waiting))
    new.kept = tuple(sorted(keeping))
    new.spent = spent
    return new


def stands(loop):
    """Whether what always holds of a Loop is so."""
    if not are_lines(loop.clauses, loop.lines):
        return False
    many = len(loop.lines)
    if not _are_indices(loop.waiting, many) or not _are_indices(loop.kept, many):
        return False
    if any([index in loop.waiting for index in loop.kept]):
        return False
    return all([_is_well_kept(loop, index) for index in loop.kept])


def _are_indices(value, many):
    """Whether any value is a tuple of ascending indices."""
    if not isinstance(value, tuple) or not all([is_below(index, many) for index in value]):
        return False
    return list(value) == sorted(set(value))


def _is_well_kept(loop, index):
    """Whether a kept clause is not (), and has no strict paper over the other ones.

    That an equation's sides are alike, or that it has both signs, is a strict paper by itself.
    """
    clause = loop.lines[index][1]
    others = [loop.lines[other][1] for other in loop.kept if other != index]
    return clause != () and paper_for(loop.order, clause, others, True) is None


def cut(order, lines, index, keeping):
    """The lines with those behind them by which a line is cut, and the index of the last one."""
    cutting = Cutting(order, lines, index, keeping)
    while cutting.leads_on() or cutting.resolves():
        pass
    return tuple(cutting.lines), cutting.last


class Cutting:
    """Lines, the last one of those by which a line is cut, and the lot of kept clauses.

    A literal that is put into comes to stand last, the side that is put into ahead. `spots` tells
    for each literal of the line, as it was, the pair of its place and whether its sides are
    exchanged: so the ways are the very ones by which paper_for leads the clause on.
    """

    def __init__(self, order, lines, index, keeping):
        self.lines = list(lines)
        self.row = [clause for _, clause in lines]
        self.last = index
        self.keeping = keeping
        self.covering = Covering(order, [self.row[place] for place in keeping])
        self.spots = [(place, False) for place in range(len(self.row[index]))]

    def seen(self):
        """The last line's clause as it was led on in its places."""
        clause = self.row[self.last]
        found = []
        for place, is_turned in self.spots:
            sign, left, right = clause[place]
            found.append((sign, right, left) if is_turned else (sign, left, right))
        return tuple(found)

    def leads_on(self):
        """Makes a line more, if a kept clause leads on the last one strictly; whether it does."""
        way = self.covering.first_way(self.seen(), True)
        if way is None:
            return False
        n, side, _, a, t, place, _ = way
        spot, is_turned = self.spots[a]
        self.tell(("put in", self.keeping[n], 0, side, self.last, spot, 1 - t if is_turned else t, place))
        self.leave(spot)
        self.spots[a] = (len(self.spots) - 1, t == 1)
        return True

    def resolves(self):
        """Makes a line more, if a not-equation of the last one has alike sides; whether it does."""
        for index, (sign, left, right) in enumerate(self.row[self.last]):
            if not sign and left == right:
                self.tell(("resolved", self.last, index))
                self.spots = [pair for pair in self.spots if pair[0] != index]
                self.leave(index)
                return True
        return False

    def leave(self, spot):
        """Puts the places behind one that is left one ahead."""
        self.spots = [(place - 1 if place > spot else place, is_turned) for place, is_turned in self.spots]

    def tell(self, step):
        """Makes a line more by a step."""
        self.row.append(Meeting(self.row, step).conclusion())
        self.lines.append((step, self.row[-1]))
        self.last = len(self.lines) - 1


def worked(loop):
    """The Loop behind one line more that was waiting; the loop itself if none waits."""
    if not loop.waiting:
        return loop
    index = _line_taken(loop)
    waiting = [other for other in loop.waiting if other != index]
    lines, last = cut(loop.order, loop.lines, index, loop.kept)
    clause = lines[last][1]
    lot = [lines[other][1] for other in loop.kept]
    if Covering(loop.order, lot).paper(clause, True) is not None:
        return _changed(loop, lines, waiting, loop.kept, loop.spent + 1)
    by_it = Covering(loop.order, (clause,))
    keeping = []
    for other in loop.kept:
        if by_it.paper(lines[other][1], True) is None:
            if by_it.first_way(lines[other][1], True) is None:
                keeping.append(other)
            else:
                waiting.append(other)
    if clause == ():
        return _changed(loop, lines, waiting, keeping, loop.spent + 1)
    keeping = sorted(keeping + [last])
    fresh = _fresh_lines(loop.order, lines, keeping, last)
    waiting.extend(list(range(len(lines), len(lines) + len(fresh))))
    return _changed(loop, lines + fresh, waiting, keeping, loop.spent + 1)


def _line_taken(loop):
    """The index of the waiting line that is worked next."""
    if loop.spent % 5 == 4:
        return loop.waiting[0]
    return min(loop.waiting, key=lambda index: _measure(loop.lines[index][1]))


def _measure(clause):
    """How much stands in a clause, and how deep: what is short and flat leads to more of that kind."""
    measures = [_measure_of_term(side) for _, left, right in clause for side in (left, right)]
    return sum([size for size, _ in measures]) + max([depth for _, depth in measures], default=0)


def _measure_of_term(term):
    """How much stands in a term, and how deep."""
    size = 1
    depth = 0
    if isinstance(term, tuple):
        for part in term[1:]:
            own_size, own_depth = _measure_of_term(part)
            size += own_size
            depth = max(depth, own_depth + 1)
    return size, depth


def _fresh_lines(order, lines, keeping, last):
    """The tuple of new lines for the conclusions of needed steps that have a kept line."""
    stepping = Stepping(order, [lines[index][1] for index in keeping])
    covering = Covering(order, stepping.clauses)
    own = keeping.index(last)
    steps = stepping.alone(own)
    for place in range(len(keeping)):
        steps.extend(stepping.between(own, place))
        if place != own:
            steps.extend(stepping.between(place, own))
    known = [clause for _, clause in lines]
    fresh = []
    for step, clause in steps:
        if clause not in known and covering.paper(clause, True) is None:
            known.append(clause)
            fresh.append((renumbered(step, keeping), clause))
    return tuple(fresh)


def _lot_of(loop):
    return [loop.lines[index][1] for index in loop.kept]


def open_steps(loop):
    """The needed steps of the kept clauses, with their conclusions, that have no strict paper over them."""
    lot = _lot_of(loop)
    covering = Covering(loop.order, lot)
    return tuple([pair for pair in all_steps(loop.order, lot) if covering.paper(pair[1], True) is None])


def open_input(loop):
    """The indices of the clauses that have no paper over the kept ones."""
    covering = Covering(loop.order, _lot_of(loop))
    return tuple([n for n, clause in enumerate(loop.clauses) if covering.paper(clause, False) is None])


def reopened(loop):
    """The Loop in which what is open waits, too."""
    lines = list(loop.lines)
    waiting = {index: True for index in loop.waiting + open_input(loop)}
    for step, clause in open_steps(loop):
        known = [other for _, other in lines]
        if clause not in known:
            lines.append((renumbered(step, loop.kept), clause))
            known.append(clause)
        waiting[known.index(clause)] = True
    return _changed(loop, lines, waiting, loop.kept, loop.spent)


class Refuted:
    """A refutation of clauses."""

    def __init__(self, lines):
        self.lines = kept(lines)


class Saturated:
    """A saturation of clauses."""

    def __init__(self, lot, inputs, steps):
        self.lot = kept(lot)
        self.inputs = kept(inputs)
        self.steps = kept(steps)


class OutOfSteps:
    """The clauses to which the steps have led: nothing is claimed."""

    def __init__(self, clauses):
        self.clauses = kept(clauses)


def settle(order, clauses, steps):
    """A refutation of clauses, or a saturation, or what so many steps have led to."""
    if not is_from(steps, 0) or steps > MOST_STEPS:
        raise BadNumber("steps", steps)
    loop = Loop(order, clauses)
    told = _answer(loop, steps)
    while told is None:
        loop = worked(loop) if loop.waiting else reopened(loop)
        told = _answer(loop, steps)
    return told


def _answer(loop, steps):
    """What settle tells of a Loop, or None."""
    row = [clause for _, clause in loop.lines]
    if () in row:
        return Refuted(lines_above(loop.lines, row.index(())))
    if not loop.waiting:
        # If something is open, the loop is reopened ahead of the next worked.
        return _saturated(loop)
    if loop.spent >= steps:
        return OutOfSteps(tuple(_lot_of(loop)) + tuple([row[index] for index in loop.waiting]))
    return None


def _saturated(loop):
    """The Saturated of a Loop in which nothing waits, or None if something is open."""
    lot = _lot_of(loop)
    covering = Covering(loop.order, lot)
    inputs = tuple([covering.paper(clause, False) for clause in loop.clauses])
    steps = tuple([covering.paper(clause, True) for _, clause in all_steps(loop.order, lot)])
    if None in inputs or None in steps:
        return None
    return Saturated(tuple(lot), inputs, steps)
