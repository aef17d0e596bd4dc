"""[80], [81], [82]: the items, the growth and the room of stores."""

import unittest

from cellplaces.errors import CellError, InvalidCell, InvalidLetter, InvalidNumber, InvalidTable, InvalidValues
from cellplaces.errors import NoRoom, NothingToUndo, SharedPlaces
from cellplaces.live import Store
from plains import place_of, plain_of
from samples import any_objects, is_table, is_whole
from stores import ROWS, SIZES, all_of, filled, undone
from wrong import Check

TILES = plain_of(("r", "m", "t n t"), ("c", "n", "t t"), ("a", "t", "t"), ("b", "t", ""))
SHARED = plain_of(("r", "m", "n"), ("c", "p", ""))
BIG = 10 ** 30 - 1


class Examples(unittest.TestCase):

    def test_examples_of_the_document(self):
        store = Store(ROWS, {"m": 3, "n": 4})
        first = [store.lay([0, 1], "x"), store.lay([2, 0], "y"), store.grow("n"), store.held()]
        store.limit(10)
        found = [first, store.look([2, 0]), store.undo(), store.held()[1], store.grow("m"), len(store), store.sizes()]
        self.assertEqual(found, [[1, 8, 1, [(1, [0, 1], "x"), (10, [2, 0], "y")]], "y", None, (8, [2, 0], "y"), 0, 2,
                                 {"m": 4, "n": 4}])


class Items(unittest.TestCase):

    def test_empty(self):
        store = Store(ROWS, SIZES)
        self.assertEqual(all_of(store), ([], 0, {"m": 3, "n": 4}, None))
        self.assertIsNone(store.look([0, 0]))
        self.assertIsNone(store.take([2, 3]))
        self.assertEqual(len(store), 0)

    def test_lay_look_take(self):
        store = Store(ROWS, SIZES)
        self.assertEqual(store.lay([1, 2], "x"), 6)
        self.assertEqual((store.look([1, 2]), store.look([2, 1]), len(store)), ("x", None, 1))
        self.assertEqual(store.lay([1, 2], "y"), 6)
        self.assertEqual((store.look([1, 2]), len(store)), ("y", 1))
        self.assertEqual((store.take([1, 2]), store.look([1, 2]), len(store)), ("y", None, 0))
        self.assertIsNone(store.take([1, 2]))

    def test_any_object_is_an_item(self):
        store = Store(plain_of(("i", "n", "")), {"n": 200})
        for at, item in enumerate(any_objects()):
            self.assertEqual(store.lay([at], item), at)
            self.assertIs(store.look([at]), item)
            self.assertIs(store.held()[at][2], item)
            self.assertEqual(len(store), at + 1)
        for at, item in enumerate(any_objects()):
            kept = store.look([at])
            self.assertIs(store.take([at]), kept)
        self.assertEqual(len(store), 0)

    def test_none_is_an_item(self):
        store = Store(ROWS, SIZES)
        store.lay([0, 0], None)
        self.assertEqual((len(store), store.held()), (1, [(0, [0, 0], None)]))
        store.lay([0, 0], "x")
        store.undo()
        self.assertEqual((len(store), store.held()), (1, [(0, [0, 0], None)]))
        self.assertIsNone(store.take([0, 0]))
        self.assertEqual((len(store), store.held()), (0, []))
        store.undo()
        self.assertEqual((len(store), store.held()), (1, [(0, [0, 0], None)]))
        store.undo()
        self.assertEqual(len(store), 0)

    def test_the_very_object(self):
        store = Store(ROWS, SIZES)
        item = ["x"]
        store.lay([1, 1], item)
        item.append("y")
        self.assertIs(store.look([1, 1]), item)
        store.held()[0][2].append("z")
        self.assertEqual(store.look([1, 1]), ["x", "y", "z"])
        store.grow("n")
        store.undo()
        self.assertIs(store.take([1, 1]), item)
        store.undo()
        self.assertIs(store.look([1, 1]), item)
        self.assertEqual(item, ["x", "y", "z"])

    def test_held(self):
        store = Store(plain_of(("c", "n", "m"), ("r", "m", "")), SIZES)
        cells = [[3, 2], [0, 0], [1, 2], [2, 0], [1, 0]]
        for cell in cells:
            store.lay(cell, tuple(cell))
        self.assertEqual(store.held(), [(3 * c + r, [c, r], (c, r)) for c, r in sorted(cells)])
        self.assertTrue(all(row.__class__ is tuple for row in store.held()))

    def test_items_that_cannot_be_compared(self):
        store = Store(ROWS, SIZES)
        for place, item in enumerate([None, {}, 1, "a", [], (), ROWS]):
            store.lay([place // 4, place % 4], item)
        self.assertEqual([row[0] for row in store.held()], list(range(7)))

    def test_other_tables(self):
        single = Store(plain_of(("i", "", "n"), ("j", "", "")), {"n": 5})
        self.assertEqual(single.lay([0, 0], "x"), 0)
        self.assertEqual(single.held(), [(0, [0, 0], "x")])
        self.assertRaises(InvalidCell, single.look, [0, 1])
        self.assertEqual(single.grow("n"), 0)
        without = Store(plain_of(("i", "", "")), {})
        self.assertEqual((without.sizes(), without.lay([0], 1)), ({}, 0))
        apart = Store(plain_of(("i", "n", "m m")), {"n": 3, "m": 2})
        self.assertEqual([apart.lay([2], "x"), apart.grow("m"), apart.held()], [8, 1, [(18, [2], "x")]])

    def test_lists_that_were_passed_or_returned(self):
        values, cell = {"m": 3, "n": 4, "k": -1, "r": 0}, [1, 2]
        store = Store(ROWS, values)
        store.lay(cell, "x")
        values["n"] = 9
        values.pop("m")
        cell[0] = 0
        cell.append(5)
        self.assertEqual(all_of(store), ([(6, [1, 2], "x")], 1, {"m": 3, "n": 4}, None))
        store.held()[0][1].append(5)
        store.held().clear()
        store.sizes().clear()
        store.sizes()["n"] = 7
        self.assertEqual(all_of(store), ([(6, [1, 2], "x")], 1, {"m": 3, "n": 4}, None))

    def test_by_names(self):
        store = Store(table=ROWS, values=SIZES)
        self.assertEqual(store.lay(cell=[1, 2], item="x"), 6)
        self.assertEqual(store.grow(size="n"), 1)
        self.assertIsNone(store.limit(room=100))
        self.assertEqual(store.attempt(action=lambda name: name.room), 100)

    def test_long_numbers(self):
        store = Store(TILES, {"m": BIG, "n": BIG - 1, "t": BIG - 2})
        cell = [BIG - 1, BIG - 2, BIG - 3, BIG - 3]
        place = BIG * (BIG - 1) * (BIG - 2) ** 2 - 1
        self.assertEqual(store.lay(cell, "x"), place)
        self.assertEqual(store.grow("t"), 1)
        self.assertEqual(store.held()[0][0], place_of(TILES, store.sizes(), cell))
        store.limit(10 ** 29)
        with self.assertRaises(NoRoom) as caught:
            store.grow("m")
        self.assertEqual(caught.exception.place, place_of(TILES, store.sizes(), cell))

    def test_many_items_and_changes(self):
        store = Store(ROWS, {"m": 100, "n": 100})
        for at in range(3000):
            store.lay([at % 100, at // 100], at)
        self.assertEqual(store.grow("n"), 3000 - 30)
        for _ in range(3001):
            store.undo()
        self.assertEqual(all_of(store), ([], 0, {"m": 100, "n": 100}, None))
        self.assertRaises(NothingToUndo, store.undo)


class Grown(unittest.TestCase):

    def test_grow(self):
        store = Store(ROWS, SIZES)
        for cell in [[0, 0], [0, 3], [1, 0], [2, 3]]:
            store.lay(cell, str(cell))
        self.assertEqual(store.grow("m"), 0)
        self.assertEqual(store.sizes(), {"m": 4, "n": 4})
        self.assertEqual(store.grow("n"), 2)
        self.assertEqual(store.sizes(), {"m": 4, "n": 5})
        self.assertEqual(store.held(), [(0, [0, 0], "[0, 0]"), (3, [0, 3], "[0, 3]"), (5, [1, 0], "[1, 0]"),
                                        (13, [2, 3], "[2, 3]")])

    def test_new_cells(self):
        store = Store(ROWS, SIZES)
        self.assertRaises(InvalidCell, store.lay, [3, 4], "x")
        self.assertEqual([store.grow("n"), store.grow("m")], [0, 0])
        self.assertEqual(store.lay([3, 4], "x"), 19)
        store.undo()
        store.undo()
        self.assertRaises(InvalidCell, store.look, [3, 4])
        self.assertEqual(store.lay([2, 4], "x"), 14)

    def test_size_letter_of_a_step(self):
        store = Store(plain_of(("r", "m", "n p"), ("c", "n", "")), {"m": 2, "n": 2, "p": 3})
        store.lay([1, 1], "x")
        self.assertEqual([store.grow("p"), store.held(), store.grow("p")], [1, [(9, [1, 1], "x")], 1])

    def test_one_order_changes_to_another(self):
        table = plain_of(("a", "m", "n k"), ("b", "n", "k"), ("c", "k", ""))
        store = Store(table, {"m": 2, "n": 2, "k": 2})
        for cell in [[0, 0, 1], [0, 1, 0], [1, 0, 0], [1, 1, 1]]:
            store.lay(cell, None)
        self.assertEqual(store.grow("k"), 3)
        self.assertEqual([row[0] for row in store.held()], [1, 3, 6, 10])
        self.assertEqual(store.grow("n"), 2)
        self.assertEqual([row[0] for row in store.held()], [1, 3, 9, 13])


class Room(unittest.TestCase):

    def test_set(self):
        store = Store(ROWS, SIZES)
        self.assertIsNone(store.room)
        self.assertIsNone(store.limit(5))
        self.assertEqual(store.room, 5)
        store.room = 10 ** 30
        self.assertEqual(store.room, 10 ** 30)
        store.room = None
        self.assertIsNone(store.room)
        store.limit(0)
        self.assertEqual(store.room, 0)
        self.assertIsNone(store.limit(None))
        self.assertIsNone(store.room)

    def test_wrong(self):
        store = filled()
        store.limit(50)
        before = undone(store)
        for wrong in any_objects() + [-1, "5", [5], (5,)]:
            if wrong is None or is_whole(wrong) and wrong >= 0:
                continue
            with self.subTest(wrong), self.assertRaises(InvalidNumber) as caught:
                store.limit(wrong)
            self.assertIs(caught.exception.value, wrong)
            with self.subTest(wrong), self.assertRaises(InvalidNumber) as caught:
                store.room = wrong
            self.assertIs(caught.exception.value, wrong)
        self.assertEqual(undone(store), before)

    def test_lay(self):
        store = Store(ROWS, SIZES)
        store.limit(6)
        self.assertEqual(store.lay([1, 1], "x"), 5)
        before = undone(store)
        for cell, place in [([1, 2], 6), ([2, 3], 11)]:
            with self.assertRaises(NoRoom) as caught:
                store.lay(cell, "y")
            self.assertEqual(caught.exception.place, place)
        self.assertEqual(undone(store), before)
        store.room = 7
        self.assertEqual(store.lay([1, 2], "y"), 6)

    def test_lay_into_a_full_cell(self):
        store = filled()
        store.limit(10)
        with self.assertRaises(NoRoom) as caught:
            store.lay([2, 0], "z")
        self.assertEqual((caught.exception.place, store.look([2, 0])), (10, "y"))
        store.limit(0)
        with self.assertRaises(NoRoom) as caught:
            store.lay([0, 0], "z")
        self.assertEqual(caught.exception.place, 0)

    def test_only_lay_and_grow_look_at_it(self):
        store = filled()
        store.limit(0)
        self.assertEqual((store.look([2, 0]), store.take([2, 0]), len(store)), ("y", "y", 1))
        store.undo()
        self.assertEqual(store.held()[-1], (10, [2, 0], "y"))
        self.assertEqual(store.room, 0)

    def test_grow(self):
        store = Store(ROWS, SIZES)
        store.limit(10)
        store.lay([0, 3], "x")
        store.lay([2, 0], "y")
        before = undone(store)
        with self.assertRaises(NoRoom) as caught:
            store.grow("n")
        self.assertEqual(caught.exception.place, 10)
        self.assertEqual(undone(store), before)
        store.limit(11)
        self.assertEqual(store.grow("n"), 1)

    def test_grow_tells_the_greatest_place_of_all_items(self):
        store = Store(plain_of(("r", "m", "n p"), ("c", "n", "")), {"m": 4, "n": 9, "p": 1})
        store.lay([0, 8], "stays")
        store.limit(8)
        with self.assertRaises(NoRoom) as caught:
            store.grow("m")
        self.assertEqual(caught.exception.place, 8)
        store.limit(None)
        store.lay([3, 1], "goes")
        store.limit(8)
        for size, place in [("m", 28), ("n", 31), ("p", 55)]:
            with self.assertRaises(NoRoom) as caught:
                store.grow(size)
            self.assertEqual(caught.exception.place, place)

    def test_grow_without_items(self):
        store = Store(ROWS, SIZES)
        store.limit(0)
        self.assertEqual(store.grow("n"), 0)
        self.assertEqual(store.sizes(), {"m": 3, "n": 5})

    def test_no_room_last(self):
        store = filled()
        store.limit(0)
        for wrong in [[9, 9], None, (0, 0)]:
            with self.assertRaises(InvalidCell):
                store.lay(wrong, "x")
        for wrong in ["k", None, "r"]:
            with self.assertRaises(InvalidLetter):
                store.grow(wrong)

    def test_not_a_change(self):
        store = Store(ROWS, SIZES)
        store.limit(7)
        store.room = 8
        self.assertRaises(NothingToUndo, store.undo)
        store.lay([0, 0], "x")
        store.limit(3)
        store.undo()
        self.assertEqual((store.room, len(store)), (3, 0))


class Wrong(Check):

    def test_tables(self):
        for wrong in any_objects() + [ROWS.sides(), [ROWS], ROWS.formula()]:
            if not is_table(wrong):
                self.check(InvalidTable, wrong, lambda table: Store(table, SIZES))
                self.check(InvalidTable, wrong, lambda table: Store(table, None))

    def test_values(self):
        for wrong in any_objects() + [{"m": 3}, {"n": 4}, {"m": 0, "n": 4}, {"m": 3, "n": -4}, {"m": 3, "n": True},
                                      {"m": 3, "n": None}, {"m": 3, "n": 4, "k": None}, {"m": 3, "n": 4, "K": 1},
                                      {"m": 3, "n": 4, 5: 1}, {"m": 3, "n": ROWS}, [("m", 3), ("n", 4)]]:
            self.check(InvalidValues, wrong, lambda values: Store(ROWS, values))
        for wrong in [None, {"m": 1, "n": 1}, {"m": 1, "n": 1, "p": 0}]:
            self.check(InvalidValues, wrong, lambda values: Store(SHARED, values))

    def test_shared_places(self):
        with self.assertRaises(CellError) as caught:
            Store(SHARED, {"m": 1, "n": 1, "p": 1})
        self.assertIs(caught.exception.__class__, SharedPlaces)

    def test_cells(self):
        store = filled()
        before = undone(store)
        for wrong in any_objects() + [[0], [0, 0, 0], (0, 0), {0: 0, 1: 0}, [0, False], [True, 0], [0, None], ["0", 0],
                                      [[0], 0], [[0, 0]], "00", [-1, 0], [0, -1], [3, 0], [0, 5], [10 ** 200, 0],
                                      [ROWS, 0], [0, ROWS.formula()]]:
            self.check(InvalidCell, wrong, lambda cell: store.lay(cell, "x"))
            self.check(InvalidCell, wrong, lambda cell: store.lay(cell, ROWS))
            self.check(InvalidCell, wrong, store.look)
            self.check(InvalidCell, wrong, store.take)
        self.assertEqual(undone(store), before)

    def test_size_letters(self):
        store = filled()
        before = undone(store)
        for wrong in any_objects() + ["r", "c", "mn", "k", ["m"], ("n",), {"n": 4}, ROWS, "N"]:
            self.check(InvalidLetter, wrong, store.grow)
        self.assertEqual(undone(store), before)


if __name__ == "__main__":
    unittest.main()
