"""Ground terms that equations lead together, step by step forwards and back again."""

from downtoground.bank import Bank

# Two terms with one name whose arguments are led together pair by pair.
ALIKE = -1
# Two terms of one class, of which it is not told yet how they are led together.
UNTOLD = -2


class Closure:
    """Classes of ground terms, by their numbers in a bank.

    `heads` tells the number that stands for the class of each number; by such numbers, `members`
    tells the class, `uses` the terms with an argument in it, no two of one key, and `partings` what
    must not come into it. `links` leads from number to number by what joined them: between two of
    one class there is one way. `table` leads from a name and the heads of arguments to a number.
    """

    def __init__(self):
        self.bank = Bank()
        self.heads = []
        self.members = []
        self.uses = []
        self.partings = []
        self.links = []
        self.table = {}
        self.trail = []

    def number_of(self, term):
        """The number of a ground term, which has its place in the classes from now on."""
        number = self.bank.number_of(term)
        for added in range(len(self.heads), len(self.bank.terms)):
            self._add(added)
        return number

    def _add(self, number):
        self.heads.append(number)
        self.members.append([number])
        self.uses.append([])
        self.partings.append([])
        self.links.append([])
        key = self._key(number)
        twin = self.table.get(key)
        if twin is not None:
            self.unite(number, twin, ALIKE)
            return
        self.table[key] = number
        for part in self.bank.rows[number]:
            self.uses[self.heads[part]].append(number)

    def _key(self, number):
        heads = [self.heads[part] for part in self.bank.rows[number]]
        return (self.bank.terms[number][0],) + tuple(heads)

    def are_one(self, one, other):
        """Whether two numbers are in one class."""
        return self.heads[one] == self.heads[other]

    def parting(self, one, other):
        """The reason of a parting between the classes of two heads, or None."""
        if len(self.partings[one]) > len(self.partings[other]):
            one, other = other, one
        for number, reason in self.partings[one]:
            if self.heads[number] == other:
                return reason
        return None

    def part(self, one, other, reason):
        """Sees to it that two numbers of unlike classes must not come into one."""
        head, other_head = self.heads[one], self.heads[other]
        self.partings[head].append((other, reason))
        self.partings[other_head].append((one, reason))
        self.trail.append((head, other_head))

    def unite(self, one, other, reason):
        """Makes one class of those of two numbers, and of all that are alike then.

        If a parting bars that, all ends there and its reason is told, otherwise None.
        """
        waiting = [(one, other, reason)]
        while waiting:
            left, right, why = waiting.pop()
            low, high = self.heads[left], self.heads[right]
            if low == high:
                continue
            if len(self.members[low]) + len(self.uses[low]) > len(self.members[high]) + len(self.uses[high]):
                low, high = high, low
            barred = self.parting(low, high)
            self.links[left].append((right, why, True))
            self.links[right].append((left, why, False))
            waiting.extend(self._poured(low, high, left, right))
            if barred is not None:
                return barred
        return None

    def _poured(self, low, high, left, right):
        """Puts one class into another one; the list of what is alike then and in unlike classes."""
        for number in self.members[low]:
            self.heads[number] = high
        keys = []
        fresh = []
        found = []
        for user in self.uses[low]:
            # The keys from before stay, too: nothing asks for them until this is undone.
            key = self._key(user)
            twin = self.table.get(key)
            if twin is None:
                self.table[key] = user
                keys.append(key)
                fresh.append(user)
            elif self.heads[twin] != self.heads[user]:
                found.append((user, twin, ALIKE))
        marks = (len(self.members[high]), len(self.uses[high]), len(self.partings[high]))
        self.trail.append((low, high, left, right, marks, keys))
        self.members[high].extend(list(self.members[low]))
        self.uses[high].extend(fresh)
        self.partings[high].extend(list(self.partings[low]))
        return found

    def undo(self, mark):
        """Takes back all that was done since the trail was so long."""
        while len(self.trail) > mark:
            entry = self.trail.pop()
            if len(entry) == 2:
                self.partings[entry[0]].pop()
                self.partings[entry[1]].pop()
            else:
                self._pour_back(entry)

    def _pour_back(self, entry):
        low, high, left, right, marks, keys = entry
        self.links[left].pop()
        self.links[right].pop()
        for key in keys:
            del self.table[key]
        del self.members[high][marks[0]:]
        del self.uses[high][marks[1]:]
        del self.partings[high][marks[2]:]
        for number in self.members[low]:
            self.heads[number] = low

    def chain_between(self, one, other):
        """A list of triples (path, reason, way) that lead from a number to one of its class."""
        found = []
        waiting = [((), one, other, UNTOLD, True)]
        while waiting:
            path, start, end, reason, way = waiting.pop()
            if reason == UNTOLD:
                for step in reversed(self._way(start, end)):
                    waiting.append((path,) + step)
            elif reason == ALIKE:
                pairs = list(zip(self.bank.rows[start], self.bank.rows[end]))
                for index in reversed(range(len(pairs))):
                    waiting.append((path + (index,),) + pairs[index] + (UNTOLD, True))
            else:
                found.append((path, reason, way))
        return found

    def _way(self, start, end):
        """A list of the links (from, to, reason, way) from a number to one of its class."""
        came = {start: None}
        waiting = [start]
        while end not in came:
            number = waiting.pop()
            for link in self.links[number]:
                if link[0] not in came:
                    came[link[0]] = (number,) + link
                    waiting.append(link[0])
        found = []
        step = came[end]
        while step is not None:
            found.append(step)
            step = came[step[0]]
        return found[::-1]
