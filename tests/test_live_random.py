"""[80] to [83]: stores against a model that is kept without thought, by calls at random."""

import random
import unittest

from cellplaces.errors import CellError, InvalidCell, InvalidLetter, NoRoom, NothingToUndo
from cellplaces.live import Store
from cellplaces.plain import own_order
from plains import is_cell, lengths_of, place_of, random_plain
from stores import ROWS, Wall, all_of


class Model:
    """What a store has to be, kept without thought: all of its past as copies."""

    def __init__(self, table, sizes):
        self.table, self.sizes, self.cells, self.past, self.room = table, dict(sizes), {}, [], None

    def snapshot(self):
        return (dict(self.sizes), dict(self.cells), list(self.past), self.room)

    def restore(self, kept):
        self.sizes, self.cells, self.past, self.room = dict(kept[0]), dict(kept[1]), list(kept[2]), kept[3]

    def note(self):
        self.past.append((dict(self.sizes), dict(self.cells)))

    def all_of(self):
        held = sorted(((place_of(self.table, self.sizes, cell), list(cell), item) for cell, item in self.cells.items()),
                      key=lambda row: row[0])
        return (held, len(self.cells), self.sizes, self.room)

    def lay(self, cell, item):
        if not is_cell(self.table, self.sizes, cell):
            return InvalidCell
        place = place_of(self.table, self.sizes, cell)
        if self.room is not None and place >= self.room:
            return (NoRoom, place)
        self.note()
        self.cells[tuple(cell)] = item
        return place

    def take(self, cell):
        if not is_cell(self.table, self.sizes, cell):
            return InvalidCell
        self.note()
        return self.cells.pop(tuple(cell), None)

    def grow(self, size):
        if size not in self.sizes:
            return InvalidLetter
        grown = {**self.sizes, size: self.sizes[size] + 1}
        places = [place_of(self.table, grown, cell) for cell in self.cells]
        if self.room is not None and places and max(places) >= self.room:
            return (NoRoom, max(places))
        moved = sum(place_of(self.table, self.sizes, cell) != place_of(self.table, grown, cell) for cell in self.cells)
        self.note()
        self.sizes = grown
        return moved

    def undo(self):
        if not self.past:
            return NothingToUndo
        sizes, cells = self.past.pop()
        self.sizes, self.cells = dict(sizes), dict(cells)
        return None


class AtRandom(unittest.TestCase):

    def told(self, work):
        try:
            return work()
        except NoRoom as error:
            return (NoRoom, error.place)
        except CellError as error:
            return error.__class__

    def act(self, rolls, store, model):
        """One call at random, of the store and of the model."""
        kind = rolls.randrange(12)
        cell = [rolls.randrange(length + 1) if not rolls.randrange(4) else rolls.randrange(length)
                for length in lengths_of(model.table, model.sizes)]
        if kind < 5:
            item = rolls.randrange(10 ** 6)
            self.assertEqual(self.told(lambda: store.lay(cell, item)), model.lay(list(cell), item))
        elif kind < 6:
            self.assertEqual(self.told(lambda: store.take(cell)), model.take(cell))
        elif kind < 8:
            size = rolls.choice([*model.sizes, "none"])
            self.assertEqual(self.told(lambda: store.grow(size)), model.grow(size))
        elif kind < 11:
            self.assertEqual(self.told(store.undo), model.undo())
        else:
            room = rolls.choice([None, rolls.randrange(100), rolls.randrange(1000)])
            self.assertIsNone(store.limit(room))
            model.room = room
        self.assertEqual(all_of(store), model.all_of())

    def run_for(self, rolls, store, model, depth):
        for _ in range(rolls.randrange(24 if depth == 0 else 12)):
            kind = rolls.randrange(12)
            if kind == 0 and depth < 4:
                kept = model.snapshot()
                try:
                    with store.trial():
                        self.run_for(rolls, store, model, depth + 1)
                        if rolls.randrange(2):
                            raise Wall()
                except Wall:
                    pass
                model.restore(kept)
            elif kind == 1 and depth < 4:
                kept = model.snapshot()
                store.attempt(lambda name: self.run_for(rolls, name, model, depth + 1))
                model.restore(kept)
            elif kind == 2 and depth < 4:
                kept = model.snapshot()
                self.run_for(rolls, store.copy(), model, depth + 1)
                model.restore(kept)
            else:
                self.act(rolls, store, model)
            self.assertEqual(all_of(store), model.all_of())

    def test_at_random(self):
        rolls = random.Random(80)
        for _ in range(120):
            table = ROWS
            if rolls.randrange(3):
                table = random_plain(rolls, rolls.randrange(1, 4), rolls.choice(["n", "nm"]))
            if own_order(table) is None:
                continue
            sizes = {name: rolls.randrange(1, 4) for name in table.sizes()}
            store, model = Store(table, sizes), Model(table, sizes)
            for _ in range(3):
                self.run_for(rolls, store, model, 0)
            while model.past:
                store.undo()
                model.undo()
                self.assertEqual(all_of(store), model.all_of())
            self.assertRaises(NothingToUndo, store.undo)


if __name__ == "__main__":
    unittest.main()
