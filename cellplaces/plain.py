"""Plain tables: the place of a cell is the sum of index times step."""

from math import gcd

from cellplaces.checks import check_values, is_count, is_letter
from cellplaces.errors import InvalidNumber, InvalidSides, InvalidTable, SharedPlaces
from cellplaces.forms import letter, number, product_at, product_form


class Plain:
    """The table with these sides, tuples of a name and of two products, size and step."""

    def __init__(self, sides):
        if not is_sides(sides, 2):
            raise InvalidSides(sides)
        self._sides = [(name, sorted(size), sorted(step)) for name, size, step in sides]

    def __eq__(self, other):
        return isinstance(other, Plain) and self._sides == other._sides

    def __len__(self):
        return len(self._sides)

    def sides(self):
        """The list of the sides, with sorted products."""
        return [(name, list(size), list(step)) for name, size, step in self._sides]

    def sizes(self):
        """The sorted list of the size letters."""
        return sorted({part for side in self._sides for product in side[1:] for part in product})

    def formula(self):
        """The place as a form in the names and the size letters."""
        total = number(0)
        for name, _, step in self._sides:
            total = total + letter(name) * product_form(step)
        return total


def own_order(table):
    """The names of the sides, from the least step to the greatest, if the cells have places of their own, or None."""
    check_table(table)
    sides = ordered(table)
    return names_of(sides) if misfit(sides) is None else None


def clash(table):
    """Values and two cells with the same place, or None."""
    check_table(table)
    pair = misfit(ordered(table))
    if pair is None:
        return None
    inner, outer = pair
    values = values_of_clash(table, inner, outer)
    low, high = product_at(inner[2], values), product_at(outer[2], values)
    shared = gcd(low, high)
    return (values, cell_on(table, inner, high // shared), cell_on(table, outer, low // shared))


def hole(table):
    """Values and a place below the number of the cells that no cell has, or None."""
    check_table(table)
    check_own_places(table)
    values = twos(table)
    done = []
    for _, size, step in ordered(table):
        # The cells of the sides so far have all places up to here; the next step is a multiple of that.
        if sorted(done) != step:
            return (values, product_at(done, values))
        done = done + size
    return None


def cell_of(table, values, place):
    """The cell at a place, or None."""
    check_table(table)
    check_values(values, table.sizes())
    if not is_count(place):
        raise InvalidNumber(place)
    check_own_places(table)
    found = {name: 0 for name in names_of(table.sides())}
    rest = place
    for name, size, step in reversed(ordered(table)):
        # All sides with lesser steps together do not reach this step.
        index, rest = divmod(rest, product_at(step, values))
        if index >= product_at(size, values):
            return None
        found[name] = index
    return list(found.values()) if rest == 0 else None


def check_table(table):
    """Raise the error for an object that is no plain table."""
    if not isinstance(table, Plain):
        raise InvalidTable(table)


def check_own_places(table):
    """Raise the error for a table whose cells do not have places of their own."""
    if own_order(table) is None:
        raise SharedPlaces()


def is_sides(sides, many):
    """Tell whether an object is a list of sides, not empty, with so many products each and no name in a product."""
    if not isinstance(sides, list) or len(sides) == 0:
        return False
    if not all([is_side(side, many) for side in sides]):
        return False
    names = names_of(sides)
    if len(set(names)) < len(names):
        return False
    return not any([part in names for side in sides for product in side[1:] for part in product])


def is_side(side, many):
    """Tell whether an object is a tuple of a letter and so many products."""
    if not isinstance(side, tuple) or len(side) != 1 + many:
        return False
    return is_letter(side[0]) and all([is_product(product) for product in side[1:]])


def is_product(product):
    """Tell whether an object is a list of letters."""
    return isinstance(product, list) and all([is_letter(name) for name in product])


def names_of(sides):
    """The list of the names of these sides."""
    return [side[0] for side in sides]


def ordered(table):
    """The sides whose size is not the empty product, those with fewer letters in their step first."""
    return sorted([side for side in table.sides() if len(side[1]) > 0], key=lambda row: len(row[2]))


def misfit(sides):
    """The first two neighbours of sides in this order of which one does not fit into the step of the next, or None."""
    for inner, outer in zip(sides, sides[1:]):
        if len(left_of(inner[2] + inner[1], outer[2])) > 0:
            return (inner, outer)
    return None


def left_of(product, other):
    """What is left of a product if the letters that it shares with another one are taken out of it."""
    left = list(product)
    for name in other:
        if name in left:
            left.remove(name)
    return left


def values_of_clash(table, inner, outer):
    """Values for which two neighbours that do not fit have cells with the same place."""
    less, more = left_of(inner[2], outer[2]), left_of(outer[2], inner[2])
    values = twos(table)
    if len(less) > 0:
        # No letter stands in both, so that both products can have the same value.
        for name in less:
            values[name] = 1 << len(more)
        for name in more:
            values[name] = 1 << len(less)
    else:
        # The inner size has one of its letters more often: if this is great, so many inner steps are one outer step.
        name = left_of(inner[1], more)[0]
        values[name] = 1 + product_at([part for part in more if part != name], values)
    return values


def twos(table):
    """Values of 2 for all size letters: each side whose size is not the empty product has two cells or more."""
    return {name: 2 for name in table.sizes()}


def cell_on(table, side, index):
    """The cell with this index on one side, and with 0 on all others."""
    return [index if name == side[0] else 0 for name in names_of(table.sides())]
