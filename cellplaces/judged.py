"""Formulas judged: whether they are right for all sizes, and where a wrong one is first wrong."""

from cellplaces.errors import InvalidForm
from cellplaces.forms import Form, number
from cellplaces.places import place
from cellplaces.shapes import check_shape, loops_at, next_bounds, put_all


def differ(shape, one, other):
    """The least sizes and the first cell for which two forms have different values, or None."""
    check_shape(shape)
    check_form(one, shape)
    check_form(other, shape)
    gap = one - other
    sizes = shape.sizes()
    # No greater sum is needed, for the reason that `longer_cells` gives.
    for more in range(gap.degree() + 1):
        for counts in splits(more, len(sizes)):
            values = {name: 1 + worth for name, worth in zip(sizes, counts)}
            cell = first_not_nought(loops_at(shape, values), put_all(gap, sizes, values))
            if cell is not None:
                return (values, cell)
    return None


def wrong_at(shape, formula):
    """The least sizes and the first cell for which a formula is not the place, or None."""
    return differ(shape, formula, place(shape))


def check_form(form, shape):
    """Raise the error for an object that is no form in the names and the size letters of a shape."""
    if not isinstance(form, Form):
        raise InvalidForm(form)
    known = shape.names() + shape.sizes()
    if not all([name in known for name in form.letters()]):
        raise InvalidForm(form)


def splits(total, many):
    """The lists of so many counts with this sum, as Python sorts them."""
    if many == 0:
        return [[]] if total == 0 else []
    found = [([], total)]
    for _ in range(many - 1):
        found = [([*counts, worth], rest - worth) for counts, rest in found for worth in range(rest + 1)]
    return [[*counts, rest] for counts, rest in found]


def first_not_nought(loops, form):
    """The first cell at which a form is not 0, or None; no size letter stands in the loops and the form."""
    # What waits stands in the order of the walk, from the end of the list.
    waiting = [([], form)]
    while len(waiting) > 0:
        cell, rest = waiting.pop()
        if len(rest.terms()) > 0:
            if len(cell) == len(loops):
                return cell
            waiting.extend(longer_cells(loops, cell, rest)[::-1])
    return None


def longer_cells(loops, cell, form):
    """The cells that have one index more, with the form in which this index stands for its name."""
    name = loops[len(cell)][0]
    low, high = next_bounds(loops, cell)
    # No further index is needed: whether the form is 0 everywhere behind an index is told by some forms in this
    # index alone, none of a higher degree, and these are 0 at all indices if they are 0 at so many.
    end = min(high, low + form.degree() + 1)
    return [([*cell, index], form.put(name, number(index))) for index in range(low, end)]
