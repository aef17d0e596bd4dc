"""Places: how many cells the walk goes through before a cell, and back from a place to the cell."""

from math import comb

from cellplaces.checks import check_values, is_count, is_whole
from cellplaces.errors import InvalidCell, InvalidNumber
from cellplaces.forms import letter, number
from cellplaces.shapes import cell_behind, check_shape, loops_at, names_of, next_bounds, put_all


def count(shape):
    """The number of cells, as a form in the size letters."""
    check_shape(shape)
    return ahead_and_all(shape.loops())[1]


def place(shape):
    """The place of a cell, as a form in the size letters and the names."""
    check_shape(shape)
    total = number(0)
    for ahead in ahead_and_all(shape.loops())[0]:
        total = total + ahead
    return total


def place_of(shape, values, cell):
    """The place of this cell."""
    loops = checked_loops(shape, values, cell)
    known = dict(zip(names_of(loops), cell))
    return sum([ahead.at(known) for ahead in ahead_and_all(loops)[0]])


def cell_at(shape, values, place):
    """The cell at this place."""
    check_shape(shape)
    check_values(values, shape.sizes())
    loops = loops_at(shape, values)
    parts, cells = ahead_and_all(loops)
    if not is_count(place) or place >= cells.at({}):
        raise InvalidNumber(place)
    names = names_of(loops)
    cell = []
    rest = place
    for name, part in zip(names, parts):
        ahead = put_all(part, names[:len(cell)], dict(zip(names, cell)))
        index = index_at(ahead, name, next_bounds(loops, cell), rest)
        rest = rest - ahead.at({name: index})
        cell.append(index)
    return cell


def next_cell(shape, values, cell):
    """The next cell of the walk, or None behind the last one."""
    return cell_behind(checked_loops(shape, values, cell), cell)


def checked_loops(shape, values, cell):
    """The loops of a shape for these values, where the three arguments are what they have to be."""
    check_shape(shape)
    check_values(values, shape.sizes())
    loops = loops_at(shape, values)
    if not is_cell(cell, loops):
        raise InvalidCell(cell)
    return loops


def is_cell(cell, loops):
    """Tell whether an object is a cell of these loops, in which no size letter stands."""
    if not isinstance(cell, list) or len(cell) != len(loops):
        return False
    if not all([is_whole(index) for index in cell]):
        return False
    for at, index in enumerate(cell):
        low, high = next_bounds(loops, cell[:at])
        if not low <= index < high:
            return False
    return True


def index_at(ahead, name, bounds, rest):
    """The greatest index of a loop with these bounds that has no more cells ahead than these."""
    low, high = bounds
    while low + 1 < high:
        middle = (low + high) // 2
        if ahead.at({name: middle}) <= rest:
            low = middle
        else:
            high = middle
    return low


def ahead_and_all(loops):
    """For each loop the form that counts the cells ahead of its index, those of the loops outside apart; and all."""
    parts = []
    inner = number(1)
    for name, low, high in reversed(loops):
        total = summed(inner, name)
        nought = total.put(name, low)
        parts.append(total - nought)
        inner = total.put(name, high) - nought
    return (parts[::-1], inner)


def summed(form, name):
    """A form that grows by this one whenever the letter grows by 1."""
    shares = form.by_powers(name)
    total = number(0)
    for share, part in zip(shares, power_sums(name, len(shares))):
        total = total + share * part
    return total


def power_sums(name, many):
    """For the powers 0, 1, .. of a letter, so many, the forms that grow by them whenever the letter grows by 1."""
    index = letter(name)
    found = []
    power = index
    for exponent in range(many):
        # The next power grows by this one and all lower ones, by each as often as `comb` tells.
        rest = power
        for lower, part in enumerate(found):
            rest = rest - part * comb(exponent + 1, lower)
        found.append(rest.over(exponent + 1))
        power = power * index
    return found
