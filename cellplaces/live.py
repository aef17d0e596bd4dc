"""Stores: items in the cells of a plain table whose sizes can grow."""

from cellplaces.checks import check_values, is_count
from cellplaces.errors import InvalidCell, InvalidLetter, InvalidNumber, NoRoom, NothingToUndo
from cellplaces.forms import product_at
from cellplaces.plain import check_own_places, check_table


class State:
    """What a store is at one time: its sizes, the items by cells, what takes the changes back, and the room.

    A change is taken back by (kind, size letter or cell, what was there
    before); the kind tells whether the item of a cell is put back, the cell
    is cleared, or the size letter gets its value back.
    """

    def __init__(self, present, cells, changes, bound):
        self.present = present
        self.cells = cells
        self.changes = changes
        self.bound = bound

    def copied(self):
        """An independent state that is the same and holds the very same items."""
        cells = {cell: self.cells[cell] for cell in self.cells}
        return State(dict(self.present), cells, list(self.changes), self.bound)

    def note_cell(self, cell):
        """Note what lies in a cell before it changes."""
        if cell in self.cells:
            self.changes.append(("item", cell, self.cells[cell]))
        else:
            self.changes.append(("empty", cell, None))

    def take_back(self):
        """Take the last change back; there is one."""
        kind, where, before = self.changes.pop()
        if kind == "size":
            self.present[where] = before
        elif kind == "item":
            self.cells[where] = before
        else:
            self.cells.pop(where, None)


class Trial:
    """A block at whose end a store is again what it was at its beginning."""

    def __init__(self, store):
        self._store = store
        self._kept = None

    def __enter__(self):
        store = self._store
        self._kept = store._state
        store._state = self._kept.copied()
        return store

    def __exit__(self, kind, value, trace):
        store = self._store
        store._state = self._kept


class Store:
    """Items in the cells of a plain table whose cells have places of their own."""

    def __init__(self, table, values):
        check_table(table)
        check_values(values, table.sizes())
        check_own_places(table)
        self._table = table
        self._state = State({name: values[name] for name in table.sizes()}, {}, [], None)

    def __len__(self):
        return len(self._state.cells)

    @property
    def room(self):
        """What each place has to be less than, or None."""
        return self._state.bound

    @room.setter
    def room(self, value):
        self.limit(value)

    def limit(self, room):
        """Set the room, a count or None."""
        if room is not None and not is_count(room):
            raise InvalidNumber(room)
        state = self._state
        state.bound = room

    def sizes(self):
        """The dictionary of the values of the size letters."""
        return dict(self._state.present)

    def lay(self, cell, item):
        """Lay an item into a cell, instead of what lies there, and return the place."""
        self._check_cell(cell)
        state = self._state
        place = place_in(self._table, state.present, cell)
        self._check_room(place)
        state.note_cell(tuple(cell))
        state.cells[tuple(cell)] = item
        return place

    def look(self, cell):
        """The item in a cell, or None."""
        self._check_cell(cell)
        return self._state.cells.get(tuple(cell), None)

    def take(self, cell):
        """Take the item out of a cell and return it, or None."""
        self._check_cell(cell)
        state = self._state
        state.note_cell(tuple(cell))
        return state.cells.pop(tuple(cell), None)

    def held(self):
        """The list of the tuples (place, cell, item), ascending by the place."""
        state = self._state
        rows = [(place_in(self._table, state.present, cell), list(cell), item) for cell, item in state.cells.items()]
        return sorted(rows, key=lambda row: row[0])

    def grow(self, size):
        """Let the value of a size letter grow by 1 and return how many items have another place then."""
        if size not in self._table.sizes():
            raise InvalidLetter(size)
        state = self._state
        grown = dict(state.present)
        grown[size] = grown[size] + 1
        before = [place_in(self._table, state.present, cell) for cell in state.cells]
        behind = [place_in(self._table, grown, cell) for cell in state.cells]
        if len(behind) > 0:
            self._check_room(max(behind))
        state.changes.append(("size", size, state.present[size]))
        state.present = grown
        return len([place for place, old in zip(behind, before) if place != old])

    def undo(self):
        """Take the last change back that has not been taken back."""
        if len(self._state.changes) == 0:
            raise NothingToUndo()
        self._state.take_back()

    def trial(self):
        """What a `with` takes to try something out in its block."""
        return Trial(self)

    def attempt(self, action):
        """What a function of the store returns that is called in a trial."""
        with Trial(self):
            return action(self)

    def copy(self):
        """An independent store that is the same and holds the very same items."""
        found = Store(self._table, self._state.present)
        found._state = self._state.copied()
        return found

    def _check_cell(self, cell):
        """Raise the error for an object that is no cell for the present values."""
        if not is_cell(cell, self._table, self._state.present):
            raise InvalidCell(cell)

    def _check_room(self, place):
        """Raise the error for a place that is not less than the room."""
        room = self._state.bound
        if room is not None and place >= room:
            raise NoRoom(place)


def is_cell(cell, table, values):
    """Tell whether an object is a cell of a plain table for these values."""
    if not isinstance(cell, list) or len(cell) != len(table):
        return False
    if not all([is_count(index) for index in cell]):
        return False
    return all([index < product_at(side[1], values) for index, side in zip(cell, table.sides())])


def place_in(table, values, cell):
    """The place of a cell of a plain table for these values."""
    return sum([index * product_at(side[2], values) for index, side in zip(cell, table.sides())])
