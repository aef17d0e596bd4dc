"""A store with some items and changes, and all that a store tells."""

from cellplaces.errors import NothingToUndo
from cellplaces.live import Store
from plains import plain_of

ROWS = plain_of(("r", "m", "n"), ("c", "n", ""))
SIZES = {"m": 3, "n": 4}


class Wall(Exception):
    """An error that the package does not know."""


def filled():
    """A store with two items and four changes that can be undone."""
    store = Store(ROWS, SIZES)
    store.lay([0, 1], "x")
    store.lay([2, 0], "y")
    store.grow("n")
    store.take([1, 1])
    return store


def all_of(store):
    """All that a store tells, without what can be undone."""
    return (store.held(), len(store), store.sizes(), store.room)


def undone(store):
    """All that a store tells while one change after the other is taken back, from a copy of it."""
    other = store.copy()
    found = [all_of(other)]
    while True:
        try:
            other.undo()
        except NothingToUndo:
            return found
        found.append(all_of(other))
