"""The search for a tree of cases of a lot, or for equations under which its clauses hold.

Cases are counted by how deep they stand on the way down, from 0 on; the literal that is taken in a
case is known by this depth. Lots of depths, and of clauses' numbers, are held as integers, bit by bit.
"""

from downtoground.closure import ALIKE, Closure
from downtoground.parts import taken_off

# How many cases a way of searching may name in its first turn.
FIRST_MOST = 1000
# How many of the clauses that were learned last are looked at, and how long they may be.
MOST_LEARNED = 1000
MOST_LEARNED_LITERALS = 10


class Case:
    """A clause that is named on the way down, and what of it has closed so far."""

    def __init__(self, number, left, mark, named):
        self.number = number
        # The numbers of the clauses that are to be looked at below.
        self.left = left
        self.mark = mark
        self.trees = []
        # The depths of the literals that the trees need, and the clauses that they name.
        self.needs = 0
        self.named = named


class Search:
    """A lot's clauses as literals of numbers, what is taken of them, and the cases on the way down.

    A search that learns has further clauses behind the lot's: each says that literals which did not
    stand together never do. It tells no right tree, but sooner which clauses have one.
    """

    def __init__(self, lot, learns):
        self.closure = Closure()
        self.clauses = []
        for clause in lot:
            self.clauses.append([(sign, self.closure.number_of(left), self.closure.number_of(right))
                                 for sign, left, right in clause])
        self.many_given = len(self.clauses)
        self.sources = [1 << number for number in range(self.many_given)]
        self.learns = learns
        self.way = []
        # How many rings have closed at the literals with a term, by its number.
        self.closing = {}
        self.fallen_alone = True
        self.by_rings = True
        self.tree = None
        self.named = 0

    def has_ended(self, fallen_alone, by_rings, most):
        """Searches from the beginning, with at most so many cases; whether it has come to an end.

        Then tree is a tree of cases, with depths for numbers, and named tells the clauses that bar all;
        or tree is None, and the closure is right for all clauses. Named are such clauses alone of
        which none holds as things stand, or all; first those whose terms have closed many rings, or
        just those with the fewest literals that are not barred.
        """
        self.closure.undo(0)
        self.way = []
        self.fallen_alone = fallen_alone
        self.by_rings = by_rings
        left = list(range(self.many_given))
        for _ in range(most):
            number, left = self.picked(left)
            if number is None:
                return True
            self.way.append(Case(number, left, len(self.closure.trail), self.sources[number]))
            told = self.gone_on()
            if told is not None:
                self.tree = told[0]
                self.named = told[2]
                return True
            left = self.way[-1].left
        return False

    def named_of(self, numbers):
        """The list of those of some numbers, one for each given clause, whose clauses bar all."""
        return [number for index, number in enumerate(numbers) if self.named >> index & 1]

    def gone_on(self):
        """Takes literals until one stands, then None is told; or the tree in which all has closed.

        A tree is told with the depths that it needs and the clauses that it names.
        """
        told = None
        while self.way:
            case = self.way[-1]
            depth = len(self.way) - 1
            if told is not None and not self.is_kept(case, depth, told):
                self.way.pop()
                continue
            literals = self.clauses[case.number]
            if len(case.trees) == len(literals):
                self.way.pop()
                told = (("case", depth, case.number, case.trees), case.needs, case.named)
                self.learn(case)
                continue
            told = self.taken(literals[len(case.trees)], depth)
            if told is None:
                return None
        return told

    def is_kept(self, case, depth, told):
        """Puts a tree that has closed below a case to it; False if the tree does without the case."""
        self.closure.undo(case.mark)
        tree, needs, named = told
        if not needs >> depth & 1:
            return False
        case.trees.append(tree)
        case.needs = case.needs | (needs ^ (1 << depth))
        case.named = case.named | named
        return True

    def learn(self, case):
        """Learns that what a closed case needs does not stand together."""
        if not self.learns or len(case.trees) < 2:
            return
        literals = []
        for depth, above in enumerate(self.way):
            if case.needs >> depth & 1:
                sign, left, right = self.clauses[above.number][len(above.trees)]
                literals.append((not sign, left, right))
        # Long ones seldom tell anything.
        if len(literals) <= MOST_LEARNED_LITERALS:
            self.clauses.append(literals)
            self.sources.append(case.named)

    def taken(self, literal, depth):
        """Takes a literal; tells a ring that closes at once, as gone_on tells a tree, or None."""
        sign, left, right = literal
        barred = None
        if sign:
            barred = self.closure.unite(left, right, depth)
        elif self.closure.are_one(left, right):
            barred = depth
        else:
            self.closure.part(left, right, depth)
        if barred is None:
            return None
        for term in (left, right):
            self.closing[term] = self.closing.get(term, 0) + 1
        return self.ring(barred)

    def ring(self, depth):
        """The ring at the not-equation taken at a depth, with the depths that it needs."""
        case = self.way[depth]
        _, left, right = self.clauses[case.number][len(case.trees)]
        chain = self.closure.chain_between(left, right)
        needs = 1 << depth
        for _, reason, _ in chain:
            needs = needs | (1 << reason)
        return (("ring", depth, chain), needs, 0)

    def picked(self, numbers):
        """The number of the clause that is named next, of some, and those that are left then.

        None instead of a number, if all of them hold as things stand.
        """
        for number in range(max(self.many_given, len(self.clauses) - MOST_LEARNED), len(self.clauses)):
            if self.many_free(number)[0] in (0, 1):
                return (number, numbers)
        left = []
        fallen = []
        for index, number in enumerate(numbers):
            many, may_hold = self.many_free(number)
            if many < 0:
                continue
            left.append(number)
            if many < 2:
                left.extend(numbers[index + 1:])
                return (number, left)
            if not may_hold:
                fallen.append(number)
        if not fallen:
            return (None, left)
        return (self.foreseen(fallen if self.fallen_alone else left), left)

    def many_free(self, number):
        """How many literals of a clause are not barred, and whether some not-equation of these holds.

        As nothing else is joined, it does so as things stand. -1 if some literal holds for good.
        """
        heads = self.closure.heads
        many = 0
        may_hold = False
        for sign, one, other in self.clauses[number]:
            head, other_head = heads[one], heads[other]
            if head == other_head:
                if sign:
                    return (-1, True)
            elif self.closure.parting(head, other_head) is None:
                many += 1
                may_hold = may_hold or not sign
            elif not sign:
                return (-1, True)
        return (many, may_hold)

    def foreseen(self, numbers):
        """The clause that is named, of some, where all that follows from each literal is seen."""
        known = {}
        best = None
        fewest = 0
        most_rings = 1
        for number in numbers:
            literals = self.clauses[number]
            many = len([literal for literal in literals if not self.is_barred(literal, known)])
            if many < 2:
                return number
            rings = 1
            if self.by_rings:
                rings += sum([self.closing.get(term, 0) for _, one, other in literals for term in (one, other)])
            if best is None or many * most_rings < fewest * rings:
                best, fewest, most_rings = number, many, rings
        return best

    def is_barred(self, literal, known):
        """Whether a ring would close at once if a literal were taken; known tells those that were asked."""
        sign, one, other = literal
        heads = (self.closure.heads[one], self.closure.heads[other])
        if heads[0] == heads[1]:
            return not sign
        if not sign:
            return False
        if not self.closure.uses[heads[0]] or not self.closure.uses[heads[1]]:
            # Then nothing else becomes alike.
            return self.closure.parting(heads[0], heads[1]) is not None
        if heads not in known:
            mark = len(self.closure.trail)
            known[heads] = self.closure.unite(one, other, ALIKE) is not None
            self.closure.undo(mark)
        return known[heads]


def learned(lot):
    """A Search of a lot that learns, and has come to an end."""
    search = Search(lot, True)
    most = FIRST_MOST
    while not search.has_ended(True, True, most):
        most = 2 * most
    return search


def _has_ended_some_way(search, most):
    """Whether a search comes to an end in one of several ways: lots are often short for one alone."""
    if search.has_ended(True, True, most) or search.has_ended(False, True, most):
        return True
    # This one is the way of [35].
    return search.has_ended(False, False, 8 * most)


def searched(lot):
    """A Search that has come to an end, and the numbers of those clauses of the lot that it is of.

    These are all clauses, or such as bar all structures by themselves: where learning tells these
    first, their trees are found much sooner.
    """
    numbers = list(range(len(lot)))
    search = Search(lot, False)
    if _has_ended_some_way(search, FIRST_MOST):
        return (search, numbers)
    known = learned(lot)
    if known.tree is None:
        return (known, numbers)
    numbers = known.named_of(numbers)
    search = Search([lot[number] for number in numbers], False)
    most = FIRST_MOST
    while not _has_ended_some_way(search, most):
        most = 2 * most
    return (search, numbers)


def numbered(tree, clauses, numbers):
    """A tree of cases of a lot from one with depths.

    Its clauses are told by literals of numbers, and by their own numbers in the lot.
    """
    # Trees may be as deep as lots are long: so no function calls itself here.
    parts = []
    waiting = [(tree, ())]
    while waiting:
        part, way = waiting.pop()
        parts.append((part, way))
        if part[0] == "case":
            _, depth, number, trees = part
            for index in reversed(range(len(trees))):
                sign = clauses[number][index][0]
                waiting.append((trees[index], way + ((depth, sign),)))
    done = []
    for part, way in reversed(parts):
        if part[0] == "case":
            done.append(("case", numbers[part[2]], tuple(taken_off(done, len(part[3])))))
        else:
            done.append(_numbered_ring(part, way))
    return done[0]


def _numbered_ring(ring, way):
    """A ring with the numbers that literals and equations have on the way down to it."""
    places = {}
    equations = {}
    for depth, sign in way:
        places[depth] = len(places)
        if sign:
            equations[depth] = len(equations)
    chain = tuple((path, equations[reason], forwards) for path, reason, forwards in ring[2])
    return ("ring", places[ring[1]], chain)
