"""Open forms of sentences, and the clauses that these become."""

from downtoground.clauses import YES, plain_names
from downtoground.spoken import free_in, names_in, put_within


class Naming:
    """The new names made so far for some sentences, in `made`, and which one comes next."""

    def __init__(self, sentences):
        self.barred = {name: True for sentence in sentences for name in names_in(sentence)}
        self.last = {"some": 0, "part": 0}
        self.made = []

    def new_name(self, word):
        """The next name of a word and a number that stands in none of the sentences."""
        name = ""
        while name == "" or name in self.barred:
            self.last[word] += 1
            name = word + str(self.last[word])
        return name

    def witness(self, sentence):
        """The term of the new name that stands for what there is by a some."""
        row = _by_numbers(free_in(sentence))
        name = self.new_name("some")
        self.made.append(("some", name, row, sentence[1], sentence[2]))
        return (name,) + row

    def part(self, arm):
        """The atom of the new name that stands for an arm."""
        row = _by_numbers(free_in(arm))
        name = self.new_name("part")
        self.made.append(("part", name, row, arm))
        return (name,) + row


def _by_numbers(greats):
    """The tuple of great names X1, X2, .., ascending by their numbers."""
    return tuple(["X" + str(number) for number in sorted([int(great[1:]) for great in greats])])


def opened(sentence, naming):
    """The open form of a sentence whose nots go inwards and whose great names are apart."""
    word = sentence[0]
    if word == "all":
        return opened(sentence[2], naming)
    if word == "some":
        witness = naming.witness(sentence)
        return opened(put_within(sentence[2], {sentence[1]: witness}), naming)
    if word == "and" or word == "or":
        # What stands on the left begins first.
        left = opened(sentence[1], naming)
        return (word, left, opened(sentence[2], naming))
    return sentence


def clauses_from(form, naming):
    """A list of the clauses of an open form, in plain names."""
    return [plain_names(clause) for clause, _ in _laid_out(form, naming)]


def _laid_out(form, naming):
    """A list of pairs: a clause, and whether the form gives it itself, and no arm that has a part."""
    if form[0] == "and":
        left = _laid_out(form[1], naming)
        return left + _laid_out(form[2], naming)
    literals = []
    parts = []
    for arm in _arms_of(form):
        if arm[0] == "and":
            parts.append((naming.part(arm), arm))
            literals.append((True, parts[-1][0], YES))
        else:
            literals.append(_literal_of(arm))
    found = [(tuple(literals), True)]
    for atom, arm in parts:
        for clause, is_own in _laid_out(arm, naming):
            found.append((((False, atom, YES),) + clause if is_own else clause, False))
    return found


def _arms_of(form):
    """A list of the arms of an or, from the left; of another form, it alone."""
    if form[0] == "or":
        return _arms_of(form[1]) + _arms_of(form[2])
    return [form]


def _literal_of(arm):
    if arm[0] == "not":
        _, left, right = _literal_of(arm[1])
        return (False, left, right)
    if arm[0] == "is":
        return (True, arm[1], YES)
    return (True, arm[1], arm[2])
