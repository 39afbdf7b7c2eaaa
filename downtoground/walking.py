"""The walk from a refutation down to ground instances."""

from downtoground.bank import Bank
from downtoground.clauses import put_in, variables_in
from downtoground.errors import TooGreat
from downtoground.lines import needs_of
from downtoground.meeting import Meeting, least_constant

MOST_ASKED = 2000


class Ask:
    """A line with a filling, what it asks in turn, and how much of that has been asked."""

    def __init__(self, line, filling, key, needs):
        self.line = line
        self.filling = filling
        self.key = key
        self.needs = needs
        self.many_asked = 0


class Walk:
    """A refutation walked from its last line upwards.

    `told` are the pairs (n, filling of clause n) as they are met, `ground` the ground lines.
    """

    def __init__(self, order, clauses, lines):
        self.clauses = clauses
        self.lines = lines
        self.row = [clause for _, clause in lines]
        self.least = least_constant(order)
        self.meetings = {}
        self.bank = Bank()
        # Leads from what has been asked to its place among the ground lines: None as long as it has none.
        self.places = {}
        self.told = []
        self.ground = []
        # Refutations may be long: so no function calls itself here.
        self.open_asks = [self.asked(len(lines) - 1, ())]
        while self.open_asks:
            self.go_on()

    def key_of(self, line, filling):
        """A plain key of a line with a filling."""
        return (line,) + tuple([self.bank.number_of(term) for _, term in filling])

    def asked(self, line, filling):
        """The Ask of a line with a filling."""
        if len(self.places) == MOST_ASKED:
            raise TooGreat(MOST_ASKED)
        key = self.key_of(line, filling)
        self.places[key] = None
        step = self.lines[line][0]
        if step[0] == "input":
            self.tell(step[1], filling)
            return Ask(line, filling, key, ())
        if line not in self.meetings:
            self.meetings[line] = Meeting(self.row, step)
        fillings = self.meetings[line].fillings(self.least, filling)
        return Ask(line, filling, key, tuple(zip(needs_of(step), fillings)))

    def own_filling(self, n, filling):
        """A filling of clause n in plain names, by its own variables."""
        return tuple(sorted(zip(variables_in(self.clauses[n]), [term for _, term in filling]),
                            key=lambda pair: pair[0]))

    def tell(self, n, filling):
        """Tells an instance, if it is a new one."""
        pair = (n, self.own_filling(n, filling))
        if pair not in self.told:
            self.told.append(pair)

    def go_on(self):
        """Asks what the last open ask asks next, or puts its ground line behind the others."""
        ask = self.open_asks[-1]
        if ask.many_asked < len(ask.needs):
            line, filling = ask.needs[ask.many_asked]
            ask.many_asked += 1
            if self.key_of(line, filling) not in self.places:
                self.open_asks.append(self.asked(line, filling))
            return
        self.open_asks.pop()
        self.places[ask.key] = len(self.ground)
        self.ground.append((self.ground_step(ask), put_in(self.row[ask.line], dict(ask.filling))))

    def ground_step(self, ask):
        """The step of the ground line of an ask."""
        step = self.lines[ask.line][0]
        if step[0] == "input":
            return ("input", step[1], self.own_filling(step[1], ask.filling))
        return ("follows", tuple([self.places[self.key_of(line, filling)] for line, filling in ask.needs]))
