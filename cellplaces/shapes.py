"""Shapes: tables that are walked by nested loops with straight bounds."""

from cellplaces.checks import check_values, is_count, is_letter
from cellplaces.errors import InvalidLoops, InvalidNumber, InvalidShape, ShortLoop
from cellplaces.forms import Form, number


class Shape:
    """What is walked by these loops, the outermost first."""

    def __init__(self, loops):
        short = shortage(loops)
        if short is not None:
            raise ShortLoop(short[0])
        self._loops = list(loops)

    def __eq__(self, other):
        return isinstance(other, Shape) and self._loops == other._loops

    def __len__(self):
        return len(self._loops)

    def names(self):
        """The list of the names in the order of the loops."""
        return names_of(self._loops)

    def loops(self):
        """The list of the loops."""
        return list(self._loops)

    def sizes(self):
        """The sorted list of the size letters."""
        return sizes_of(self._loops)


def shortage(loops):
    """The name of the first loop without a turn, with sizes and a cell of the loops outside, or None."""
    if not is_loops(loops):
        raise InvalidLoops(loops)
    sizes = sizes_of(loops)
    for at, (name, low, high) in enumerate(loops):
        found = point_below_one(loops[:at], sizes, high - low)
        if found is not None:
            values, cell = found
            return (name, values, cell)
    return None


def walk(shape, values, count):
    """The list of the first cells of the walk, so many or all."""
    check_shape(shape)
    check_values(values, shape.sizes())
    if not is_count(count):
        raise InvalidNumber(count)
    loops = loops_at(shape, values)
    cells = []
    cell = completed(loops, [])
    while cell is not None and len(cells) < count:
        cells.append(cell)
        cell = cell_behind(loops, cell)
    return cells


def check_shape(shape):
    """Raise the error for an object that is no shape."""
    if not isinstance(shape, Shape):
        raise InvalidShape(shape)


def is_loops(loops):
    """Tell whether an object is a list of loops that a shape may have, short ones included."""
    if not isinstance(loops, list) or len(loops) == 0:
        return False
    if not all([is_loop(loop) for loop in loops]):
        return False
    names = names_of(loops)
    if len(set(names)) < len(names):
        return False
    return all([hangs_on_none(loop, names[at:]) for at, loop in enumerate(loops)])


def is_loop(loop):
    """Tell whether an object is a tuple of a letter and two straight forms."""
    if not isinstance(loop, tuple) or len(loop) != 3:
        return False
    name, low, high = loop
    return is_letter(name) and is_straight(low) and is_straight(high)


def is_straight(form):
    """Tell whether an object is a form of a degree of at most 1 whose coefficients are whole numbers."""
    if not isinstance(form, Form) or form.degree() > 1:
        return False
    return all([term[1] == 1 for term in form.terms()])


def hangs_on_none(loop, names):
    """Tell whether none of these names stands in the bounds of a loop."""
    return not any([name in names for bound in loop[1:] for name in bound.letters()])


def names_of(loops):
    """The list of the names of these loops."""
    return [loop[0] for loop in loops]


def sizes_of(loops):
    """The sorted list of the size letters of these loops."""
    names = names_of(loops)
    return sorted({name for loop in loops for bound in loop[1:] for name in bound.letters() if name not in names})


def point_below_one(loops, sizes, form):
    """Values and a cell for which a straight form is less than 1, or None; each of the loops has a turn."""
    ends = []
    for name, low, high in reversed(loops):
        # Both ends of a loop are whole numbers, and a straight form is nowhere less than at one of them.
        end = low if factor_of(form, name) >= 0 else high - 1
        form = form.put(name, end)
        ends.append(end)
    values = sizes_below_one(sizes, form)
    if values is None:
        return None
    known = dict(values)
    for loop, end in zip(loops, ends[::-1]):
        known[loop[0]] = end.at(known)
    return (values, [known[name] for name in names_of(loops)])


def sizes_below_one(sizes, form):
    """Values for which a straight form in the size letters is less than 1, or None."""
    values = {name: 1 for name in sizes}
    least = form.at(values)
    if least < 1:
        return values
    for name in sizes:
        factor = factor_of(form, name)
        if factor < 0:
            values[name] = 1 - least // factor
            return values
    return None


def factor_of(form, name):
    """The coefficient of a letter in a straight form."""
    for top, _, names in form.terms():
        if names == [name]:
            return top
    return 0


def loops_at(shape, values):
    """The loops of a shape for these values: no size letter stands in them."""
    sizes = shape.sizes()
    return [(name, put_all(low, sizes, values), put_all(high, sizes, values)) for name, low, high in shape.loops()]


def put_all(form, names, values):
    """The form in which the values of these letters stand for them."""
    for name in names:
        form = form.put(name, number(values[name]))
    return form


def next_bounds(loops, cell):
    """The bounds, as numbers, of the loop that comes next behind these indices of the outer ones."""
    _, low, high = loops[len(cell)]
    known = dict(zip(names_of(loops), cell))
    return (low.at(known), high.at(known))


def completed(loops, cell):
    """The first cell that begins with these indices."""
    while len(cell) < len(loops):
        cell = [*cell, next_bounds(loops, cell)[0]]
    return cell


def cell_behind(loops, cell):
    """The next cell of the walk, or None behind the last one."""
    for at in range(len(loops) - 1, -1, -1):
        index = cell[at] + 1
        if index < next_bounds(loops, cell[:at])[1]:
            return completed(loops, [*cell[:at], index])
    return None
