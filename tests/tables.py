"""Loops made of texts or at random, and what is found about them by stepping through all cells."""

from fractions import Fraction
from itertools import product

from cellplaces.errors import ShortLoop
from cellplaces.shapes import Shape
from cellplaces.texts import read


def loops_of(*rows):
    """The loops of tuples of a name and the texts of two bounds."""
    return [(name, read(low), read(high)) for name, low, high in rows]


def shape_of(*rows):
    return Shape(loops_of(*rows))


def value_of(form, values):
    """The value of a form as a fraction, worked out from its terms."""
    total = Fraction(0)
    for top, bottom, names in form.terms():
        part = Fraction(top, bottom)
        for name in names:
            part *= values[name]
        total += part
    return total


def stepped(loops, values):
    """All cells for these values of the size letters, as the loops go through them; short loops have no turn."""
    if not loops:
        return [[]]
    name, low, high = loops[0]
    found = []
    for index in range(int(value_of(low, values)), int(value_of(high, values))):
        found += [[index] + rest for rest in stepped(loops[1:], {**values, name: index})]
    return found


def sizes_up_to(sizes, most):
    """All values of at least 1 whose sum is at most the given one, in the order of [40]."""
    found = [list(worths) for worths in product(range(1, most + 1), repeat=len(sizes)) if sum(worths) <= most]
    return [dict(zip(sizes, worths)) for worths in sorted(found, key=lambda worths: (sum(worths), worths))]


def letters_of(loops):
    """The sorted list of the size letters of some loops."""
    names = [name for name, _, _ in loops]
    return sorted({part for _, low, high in loops for bound in (low, high)
                   for _, _, parts in bound.terms() for part in parts if part not in names})


def straight_text(rolls, names, most):
    """The text of a straight form in some of these names."""
    text = str(rolls.randrange(-most, most + 1)) if rolls.randrange(3) else "0"
    for name in names:
        if rolls.randrange(2):
            text += rolls.choice(["+", "+", "-"]) + rolls.choice(["", "", "2*"]) + name
    return text if text[0] != "-" else "0" + text


def random_loops(rolls, many, sizes):
    """Loops at random; about every second list has a short one."""
    names = rolls.sample(["i", "j", "k", "z"], many)
    rows = []
    for at, name in enumerate(names):
        low = straight_text(rolls, names[:at] + sizes, 1)
        if rolls.randrange(2):
            rows.append((name, low, low + "+" + rolls.choice(["1", "2", *sizes, *names[:at]])))
        else:
            rows.append((name, low, straight_text(rolls, names[:at] + sizes, 2)))
    return loops_of(*rows)


def random_shape(rolls, many, sizes):
    """A shape at random, with few cells for small sizes."""
    while True:
        loops = random_loops(rolls, many, sizes)
        cells = max(len(stepped(loops, values)) for values in sizes_up_to(letters_of(loops), 5))
        if cells < 99 and not shorts(loops, 4):
            try:
                return Shape(loops)
            except ShortLoop:
                pass


def shorts(loops, most):
    """The numbers of the loops that have no turn somewhere, as far as sizes of this sum tell; only the first counts."""
    found = set()
    for values in sizes_up_to(letters_of(loops), most):
        for at, (_, low, high) in enumerate(loops):
            cells = stepped(loops[:at], values)
            if any(not has_turn(loops, at, values, cell) for cell in cells):
                found.add(at)
    return found


def has_turn(loops, at, values, cell):
    """Tell whether a loop has a turn for these values and this cell of the loops outside of it."""
    known = {**values, **dict(zip([name for name, _, _ in loops], cell))}
    return value_of(loops[at][1], known) < value_of(loops[at][2], known)


def is_cell(loops, values, cell):
    """Tell whether a list of indices lies within the bounds of the loops."""
    known = {**values, **dict(zip([name for name, _, _ in loops], cell))}
    return all(value_of(low, known) <= index < value_of(high, known) for (_, low, high), index in zip(loops, cell))
