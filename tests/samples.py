"""Objects of all kinds, for arguments that have to be of one kind."""

from cellplaces.forms import letter, number
from cellplaces.plain import Plain
from cellplaces.shapes import Shape


def nested(depth):
    """A list that is nested this deep."""
    found = []
    for _ in range(depth - 1):
        found = [found]
    return found


def any_objects():
    """Objects of each kind that an argument may have."""
    line = Shape([("i", number(0), letter("n"))])
    table = Plain([("i", ["n"], [])])
    return [
        None, True, False, 0, 1, -1, 2, 10 ** 30, -10 ** 30,
        "", " ", "a", "abcdefghij", "abcdefghijk", "A", "a b", "a1", "1", "i+", "i_j",
        [], ["a"], [1], [("a", 1)], nested(20),
        (), ("a",), (1,), (1, 1, ["a"]),
        {}, {"a": 1}, {"i": 1, "j": 2}, {1: "a"}, {None: None}, {"a": [{}]},
        number(0), number(1), letter("a"), letter("a").over(2), [letter("a")],
        line, [line, None], (line,), {"i": line}, ("i", number(0), letter("n")), [["i", number(0), letter("n")]],
        table, [table], (table,), {"i": table}, ("i", ["n"], []), [["i", ["n"], []]], [("i", ("n",), ())],
    ]


def is_whole(value):
    return value.__class__ is int


def is_form(value):
    return value.__class__ is letter("a").__class__


def is_shape(value):
    return value.__class__ is Shape


def is_table(value):
    return value.__class__ is Plain


def is_letter(value):
    signs = "abcdefghijklmnopqrstuvwxyz"
    return value.__class__ is str and 1 <= len(value) <= 10 and not value.strip(signs)
