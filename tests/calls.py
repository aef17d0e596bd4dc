"""Each call of the interface, with arguments that are right and the errors that wrong ones raise."""

from cellplaces import errors
from cellplaces.forms import letter, number
from cellplaces.judged import differ, wrong_at
from cellplaces.live import Store
from cellplaces.moves import arranged, joined, jumps, kept, same_run, smooth
from cellplaces.orders import laid, same_cells
from cellplaces.places import cell_at, count, next_cell, place, place_of
from cellplaces.plain import Plain, cell_of, clash, hole, own_order
from cellplaces.rings import ring_length, rings, turned
from cellplaces.shapes import Shape, shortage, walk
from cellplaces.texts import read, write
from plains import plain_of
from samples import is_form, is_letter, is_shape, is_table, is_whole
from tables import loops_of, shape_of

HALF = shape_of(("i", "0", "n"), ("j", "0", "i + 1"))
SWAPPED = shape_of(("j", "0", "n"), ("i", "j", "m + n"))
ROWS = plain_of(("r", "m", "n"), ("c", "n", ""))
MIXED = plain_of(("r", "m", "n"), ("c", "p", ""))
FORM = read("i * n / 2 + j - n")


def store():
    """A store with some items, changes and a room."""
    found = Store(ROWS, {"m": 3, "n": 4})
    found.lay([1, 2], ["x"])
    found.lay([0, 0], "y")
    found.grow("n")
    found.take([0, 0])
    found.limit(40)
    return found


def never(_):
    return False


def at_least(least):
    return lambda value: is_whole(value) and value >= least


def below(many):
    return lambda value: is_whole(value) and 0 <= value < many


def fits(value):
    """Tell whether a form has no letters but those of HALF."""
    return is_form(value) and set(value.letters()) <= {"i", "j", "n"}


def is_number_or_form(value):
    return is_whole(value) or is_form(value)


def is_room(value):
    return value is None or at_least(0)(value)


def set_room(room):
    """The assignment of the room, as a function."""
    found = store()
    found.room = room
    return found.room


# For each function, constructor and method: what is called, and for each parameter its name, a right argument, the name
# of the error for a wrong one, and what tells whether an object is right.
CALLS = [
    (letter, [("name", "ab", "Letter", is_letter)]),
    (number, [("value", -7, "Number", is_whole)]),
    (lambda other: FORM + other, [("other", FORM, "Form", is_number_or_form)]),
    (lambda other: FORM - other, [("other", -3, "Form", is_number_or_form)]),
    (lambda other: FORM * other, [("other", FORM, "Form", is_number_or_form)]),
    (FORM.over, [("divisor", -2, "Number", lambda value: is_whole(value) and value != 0)]),
    (FORM.terms, []),
    (FORM.letters, []),
    (FORM.degree, []),
    (FORM.at, [("values", {"i": 2, "j": 3, "n": 5}, "Values", never)]),
    (FORM.put, [("name", "n", "Letter", is_letter), ("other", letter("m") + 1, "Form", is_form)]),
    (read, [("text", "i * n - 3/2", "Text", lambda text: text in ["a", "abcdefghij", "1"])]),
    (write, [("form", FORM, "Form", is_form)]),
    (Shape, [("loops", HALF.loops(), "Loops", never)]),
    (HALF.names, []),
    (HALF.loops, []),
    (HALF.sizes, []),
    (HALF.__len__, []),
    (shortage, [("loops", loops_of(("i", "0", "n"), ("j", "i", "m")), "Loops", never)]),
    (walk, [("shape", HALF, "Shape", is_shape), ("values", {"n": 3}, "Values", never),
            ("count", 5, "Number", at_least(0))]),
    (count, [("shape", HALF, "Shape", is_shape)]),
    (place, [("shape", HALF, "Shape", is_shape)]),
    (place_of, [("shape", HALF, "Shape", is_shape), ("values", {"n": 3}, "Values", never),
                ("cell", [2, 1], "Cell", never)]),
    (cell_at, [("shape", HALF, "Shape", is_shape), ("values", {"n": 3}, "Values", never),
               ("place", 4, "Number", below(6))]),
    (next_cell, [("shape", HALF, "Shape", is_shape), ("values", {"n": 3}, "Values", never),
                 ("cell", [1, 1], "Cell", never)]),
    (differ, [("shape", HALF, "Shape", is_shape), ("one", letter("i"), "Form", fits), ("other", FORM, "Form", fits)]),
    (wrong_at, [("shape", HALF, "Shape", is_shape), ("formula", FORM, "Form", fits)]),
    (same_cells, [("one", HALF, "Shape", is_shape), ("other", SWAPPED, "Shape", is_shape)]),
    (laid, [("shapes", [HALF, HALF], "Shape", never)]),
    (Plain, [("sides", ROWS.sides(), "Sides", never)]),
    (ROWS.sides, []),
    (ROWS.sizes, []),
    (ROWS.formula, []),
    (ROWS.__len__, []),
    (own_order, [("table", ROWS, "Table", is_table)]),
    (clash, [("table", MIXED, "Table", is_table)]),
    (hole, [("table", plain_of(("r", "m", "n p"), ("c", "n", "")), "Table", is_table)]),
    (cell_of, [("table", ROWS, "Table", is_table), ("values", {"m": 3, "n": 4}, "Values", never),
               ("place", 7, "Number", at_least(0))]),
    (jumps, [("table", ROWS, "Table", is_table), ("walk", ["c", "r"], "Walk", never)]),
    (smooth, [("table", ROWS, "Table", is_table)]),
    (kept, [("table", ROWS, "Table", is_table), ("size", "n", "Letter", never)]),
    (arranged, [("sides", [("r", ["m"]), ("c", ["n"])], "Sides", never), ("size", "n", "Letter", is_letter)]),
    (joined, [("table", ROWS, "Table", is_table), ("walk", ["r", "c"], "Walk", never)]),
    (same_run, [("table", ROWS, "Table", is_table), ("walk", ["r", "c"], "Walk", never),
                ("other", MIXED, "Table", is_table), ("route", ["c", "r"], "Walk", never)]),
    (turned, [("rows", 2, "Number", at_least(1)), ("columns", 3, "Number", at_least(1)),
              ("place", 4, "Number", below(6)), ("times", 3, "Number", at_least(0))]),
    (ring_length, [("rows", 2, "Number", at_least(1)), ("columns", 3, "Number", at_least(1)),
                   ("place", 4, "Number", below(6))]),
    (rings, [("rows", 2, "Number", at_least(1)), ("columns", 3, "Number", at_least(1))]),
    (Store, [("table", ROWS, "Table", is_table), ("values", {"m": 3, "n": 4}, "Values", never)]),
    (lambda cell, item: store().lay(cell, item), [("cell", [2, 3], "Cell", never), ("item", ["z"], None, None)]),
    (lambda cell: store().look(cell), [("cell", [1, 2], "Cell", never)]),
    (lambda cell: store().take(cell), [("cell", [1, 2], "Cell", never)]),
    (lambda: len(store()), []),
    (lambda: store().sizes(), []),
    (lambda: store().held(), []),
    (lambda size: store().grow(size), [("size", "n", "Letter", never)]),
    (lambda room: store().limit(room), [("room", 40, "Number", is_room)]),
    (set_room, [("room", 40, "Number", is_room)]),
    (lambda: store().undo(), []),
    (lambda action: store().attempt(action), [("action", len, None, None)]),
]


def error_of(name):
    return getattr(errors, "Invalid" + name)
