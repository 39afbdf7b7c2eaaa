"""Layer 11: finite structures, and the lots that ask for them."""

from downtoground.clauses import put_in, variables_in
from downtoground.ground import Closed, decide, is_closed
from downtoground.leading import Leading
from downtoground.orders import Order
from downtoground.values import all_rows, is_below, is_from, kept

YES = ("yes",)


class Structure:
    """So many elements, and for each name a table of its values by the rows of its arguments."""

    def __init__(self, size, tables):
        self.size = kept(size)
        self.tables = kept(tables)


def is_structure(order, value):
    """Whether any value is a Structure with just the names of the order."""
    if not isinstance(value, Structure) or not is_from(value.size, 1) or not isinstance(value.tables, dict):
        return False
    names = [name for name, _, _ in order.things + order.truths]
    if len(value.tables) != len(names) or not all([isinstance(name, str) for name in value.tables]):
        return False
    for name, arity, _ in order.things + order.truths:
        if name not in value.tables or not _is_row(value.tables[name], _power(value.size, arity)):
            return False
    for name, _, _ in order.things:
        if not all([is_below(worth, value.size) for worth in value.tables[name]]):
            return False
    return all([isinstance(worth, bool) for name, _, _ in order.truths for worth in value.tables[name]])


def _is_row(value, many):
    return isinstance(value, tuple) and len(value) == many


def _power(size, arity):
    """How many rows of so many arguments there are."""
    many = 1
    for _ in range(arity):
        many = many * size
    return many


def value_in(structure, term, values):
    """The element that a thing stands for by the values of its variables, or whether a truth is so."""
    if not isinstance(term, tuple):
        return values[term]
    if term == YES:
        return True
    index = 0
    for part in term[1:]:
        index = index * structure.size + value_in(structure, part, values)
    return structure.tables[term[0]][index]


def is_true(structure, clause):
    """Whether some literal of a clause is true for all values of its variables."""
    return _false_values(structure, clause) is None


def first_false(structure, clauses):
    """The number of the first clause that is not true, and the first values for that; None if all are."""
    for number, clause in enumerate(clauses):
        values = _false_values(structure, clause)
        if values is not None:
            return (number, values)
    return None


def _false_values(structure, clause):
    """The first row of values by which no literal of a clause is true, or None."""
    used = sorted(variables_in(clause))
    for row in all_rows(structure.size, len(used)):
        # Those that the clause does not have are 0 in the first row.
        values = [0] * _many_values(used)
        for variable, element in zip(used, row):
            values[variable] = element
        if not any([_is_so(structure, literal, values) for literal in clause]):
            return tuple(values)
    return None


def _is_so(structure, literal, values):
    sign, left, right = literal
    return (value_in(structure, left, values) == value_in(structure, right, values)) == sign


def _many_values(variables):
    """How many values a row has for ascending variables: one for each up to the greatest one."""
    return variables[-1] + 1 if variables else 0


def members(size):
    """The names of so many elements, as ground terms."""
    return tuple((str(element),) for element in range(size))


def with_elements(order, size):
    """The order with the names of so many elements ahead of all its things."""
    return Order([(term[0], 0, 1) for term in members(size)] + list(order.things), order.truths)


def lot_of(order, size, clauses):
    """The lot of ground clauses that a structure of so many elements makes true."""
    names = members(size)
    lot = [((False, names[low], names[high]),) for low in range(size) for high in range(low + 1, size)]
    for name, arity, _ in order.things:
        for row in all_rows(size, arity):
            left = _filled(name, row)
            lot.append(tuple((True, left, right) for right in names))
    for clause in clauses:
        for row in all_rows(size, _many_values(sorted(variables_in(clause)))):
            lot.append(put_in(clause, {variable: names[element] for variable, element in enumerate(row)}))
    return tuple(lot)


def _filled(name, row):
    """The term with a name and elements as its arguments."""
    return (name,) + tuple((str(element),) for element in row)


class Found:
    """A structure in which all clauses are true."""

    def __init__(self, structure):
        self.structure = kept(structure)


class NoneFound:
    """A tree of cases: there is no structure of a size in which all clauses are true."""

    def __init__(self, tree):
        self.tree = kept(tree)


def structure_of(order, size, clauses):
    """A structure of a size in which all clauses are true, or a tree of cases of its lot."""
    told = decide(with_elements(order, size), lot_of(order, size, clauses))
    if isinstance(told, Closed):
        return NoneFound(told.tree)
    return Found(Structure(size, tables_of(order, size, told.rules)))


def is_sought(order, size, clauses, told):
    """Whether any value is what structure_of describes."""
    if isinstance(told, NoneFound):
        return is_closed(lot_of(order, size, clauses), told.tree)
    if not isinstance(told, Found) or not is_structure(order, told.structure):
        return False
    return told.structure.size == size and first_false(told.structure, clauses) is None


def tables_of(order, size, rules):
    """The tables that rules tell which satisfy the lot of a size."""
    leading = Leading(rules)
    tables = {}
    for name, arity, _ in order.things:
        tables[name] = tuple(int(leading.normal(_filled(name, row))[0]) for row in all_rows(size, arity))
    for name, arity, _ in order.truths:
        tables[name] = tuple(leading.are_one(_filled(name, row), YES) for row in all_rows(size, arity))
    return tables


def rules_of(order, structure):
    """The rules that lead each name with elements to its value in a structure."""
    rules = []
    for name, arity, _ in order.things:
        for row, worth in zip(all_rows(structure.size, arity), structure.tables[name]):
            rules.append((_filled(name, row), (str(worth),)))
    for name, arity, _ in order.truths:
        for row, worth in zip(all_rows(structure.size, arity), structure.tables[name]):
            if worth:
                rules.append((_filled(name, row), YES))
    return tuple(rules)


class NoneUpTo:
    """Trees of cases: there is no structure of any of the sizes up to some most."""

    def __init__(self, trees):
        self.trees = kept(trees)


def least_structure(order, clauses, most):
    """A structure of the least size up to most, or a tree of cases for each of the sizes."""
    trees = []
    for size in range(1, most + 1):
        told = structure_of(order, size, clauses)
        if isinstance(told, Found):
            return told
        trees.append(told.tree)
    return NoneUpTo(trees)
