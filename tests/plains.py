"""Plain tables made of texts or at random, and what is found about them by stepping through all cells."""

from collections import Counter
from itertools import product

from cellplaces.plain import Plain


def sides_of(*rows):
    """The sides of tuples of a name and the texts of two products, with blanks between their letters."""
    return [(name, size.split(), step.split()) for name, size, step in rows]


def plain_of(*rows):
    return Plain(sides_of(*rows))


def worth_of(letters, values):
    """The value of a product."""
    found = 1
    for name in letters:
        found *= values[name]
    return found


def lengths_of(table, values):
    return [worth_of(size, values) for _, size, _ in table.sides()]


def number_of(table, values):
    """The number of the cells."""
    found = 1
    for length in lengths_of(table, values):
        found *= length
    return found


def cells_of(table, values):
    """All cells, as loops over the sides in their order go through them."""
    return [list(cell) for cell in product(*[range(length) for length in lengths_of(table, values)])]


def place_of(table, values, cell):
    return sum(index * worth_of(step, values) for index, (_, _, step) in zip(cell, table.sides()))


def places_of(table, values):
    """The sorted list of the places of all cells."""
    return sorted(place_of(table, values, cell) for cell in cells_of(table, values))


def is_cell(table, values, cell):
    lengths = lengths_of(table, values)
    if cell.__class__ is not list or len(cell) != len(lengths):
        return False
    return all(index.__class__ is int and 0 <= index < length for index, length in zip(cell, lengths))


def walked_by(table, walk, values):
    """The cells in the order of a walk, as dictionaries of names and indices."""
    lengths = dict(zip(names_of(table), lengths_of(table, values)))
    return [dict(zip(walk, cell)) for cell in product(*[range(lengths[name]) for name in walk])]


def run_of(table, walk, values):
    """The places in the order of a walk."""
    names = names_of(table)
    return [place_of(table, values, [cell[name] for name in names]) for cell in walked_by(table, walk, values)]


def names_of(table):
    return [side[0] for side in table.sides()]


def values_up_to(sizes, most):
    """All values from 1 up to the given number."""
    return [dict(zip(sizes, worths)) for worths in product(range(1, most + 1), repeat=len(sizes))]


def few_cells(table, most, cells):
    """All values from 1 up to the given number for which there are no more than so many cells."""
    return [values for values in values_up_to(table.sizes(), most) if number_of(table, values) <= cells]


def divides(one, other):
    """Tell whether a product divides another one, as products."""
    return not Counter(one) - Counter(other)


def some_letters(rolls, letters, most):
    return [rolls.choice(letters) for _ in range(rolls.randrange(most + 1))]


def random_plain(rolls, many, letters):
    """A plain table at random: often one whose cells have places of their own, now and then a full one."""
    names = rolls.sample(["r", "c", "a", "b", "x"], many)
    spoiled = rolls.randrange(2)
    rows = []
    step = [] if rolls.randrange(4) else some_letters(rolls, letters, 1)
    for name in names:
        size = some_letters(rolls, letters, 2)
        rows.append((name, size, rolls.sample(step, len(step)) if size else some_letters(rolls, letters, 2)))
        gap = some_letters(rolls, letters, 1) if not rolls.randrange(3) else []
        step = step + size + gap
        if spoiled:
            step = some_letters(rolls, letters, 3)
    rolls.shuffle(rows)
    return Plain(rows)
