"""[83]: changes taken back, trials, attempts and copies of stores."""

import unittest

from cellplaces.errors import InvalidCell, InvalidLetter, InvalidNumber, NoRoom, NothingToUndo
from cellplaces.live import Store
from stores import ROWS, SIZES, Wall, all_of, filled, undone


class Undone(unittest.TestCase):

    def test_lay(self):
        store = Store(ROWS, SIZES)
        store.lay([0, 0], "x")
        store.lay([0, 0], "y")
        self.assertIsNone(store.undo())
        self.assertEqual(store.look([0, 0]), "x")
        store.undo()
        self.assertEqual(all_of(store), ([], 0, SIZES, None))
        self.assertRaises(NothingToUndo, store.undo)

    def test_take_also_of_an_empty_cell(self):
        store = Store(ROWS, SIZES)
        store.lay([0, 0], "x")
        store.take([0, 0])
        store.take([0, 0])
        store.take([1, 1])
        for items in [0, 0, 1, 0]:
            store.undo()
            self.assertEqual(len(store), items)
        self.assertRaises(NothingToUndo, store.undo)

    def test_look_and_others_are_no_changes(self):
        store = Store(ROWS, SIZES)
        store.look([0, 0])
        store.held()
        store.sizes()
        len(store)
        store.copy()
        store.trial()
        self.assertRaises(NothingToUndo, store.undo)

    def test_grow(self):
        store = filled()
        store.grow("m")
        store.grow("n")
        self.assertEqual(store.sizes(), {"m": 4, "n": 6})
        for sizes in [{"m": 4, "n": 5}, {"m": 3, "n": 5}, {"m": 3, "n": 5}, {"m": 3, "n": 4}]:
            store.undo()
            self.assertEqual(store.sizes(), sizes)

    def test_undo_is_no_change(self):
        store = filled()
        store.undo()
        store.undo()
        store.lay([1, 1], "z")
        store.undo()
        self.assertEqual(store.held(), [(1, [0, 1], "x"), (8, [2, 0], "y")])
        store.undo()
        store.undo()
        self.assertRaises(NothingToUndo, store.undo)
        self.assertRaises(NothingToUndo, store.undo)

    def test_calls_that_raise_are_no_changes(self):
        store = filled()
        store.limit(12)
        before = undone(store)
        for error, work in [(InvalidCell, lambda: store.lay([9, 9], 1)), (InvalidCell, lambda: store.take([9, 9])),
                            (InvalidCell, lambda: store.look(None)), (InvalidLetter, lambda: store.grow("k")),
                            (NoRoom, lambda: store.lay([2, 4], 1)), (NoRoom, lambda: store.grow("n")),
                            (InvalidNumber, lambda: store.limit(-1))]:
            self.assertRaises(error, work)
            self.assertEqual(undone(store), before)
        fresh = Store(ROWS, SIZES)
        self.assertRaises(NothingToUndo, fresh.undo)
        self.assertEqual(all_of(fresh), ([], 0, SIZES, None))

    def test_more_undo_than_room(self):
        store = Store(ROWS, SIZES)
        store.lay([2, 3], "x")
        store.take([2, 3])
        store.limit(1)
        store.undo()
        self.assertEqual((store.held(), store.room), ([(11, [2, 3], "x")], 1))


class Trials(unittest.TestCase):

    def change_all(self, store):
        store.undo()
        store.lay([0, 1], "other")
        store.lay([1, 3], "new")
        store.grow("m")
        store.take([2, 0])
        store.undo()
        store.undo()
        store.room = 77

    def test_all_is_as_before(self):
        store = filled()
        store.limit(60)
        before = undone(store)
        with store.trial():
            self.change_all(store)
            self.assertNotEqual(all_of(store), before[0])
            self.assertEqual(store.look([1, 3]), "new")
        self.assertEqual(undone(store), before)
        self.assertEqual(len(before), 5)
        for told in before[1:]:
            store.undo()
            self.assertEqual(all_of(store), told)
        self.assertRaises(NothingToUndo, store.undo)

    def test_the_store_itself_gets_the_name(self):
        store = filled()
        with store.trial() as name:
            self.assertIs(name, store)
            name.lay([1, 1], "z")
            self.assertEqual(store.look([1, 1]), "z")
        self.assertIsNone(store.look([1, 1]))

    def test_left_by_an_error(self):
        store = filled()
        before = undone(store)
        error = Wall("told")
        with self.assertRaises(Wall) as caught:
            with store.trial():
                self.change_all(store)
                raise error
        self.assertIs(caught.exception, error)
        self.assertEqual(undone(store), before)
        with self.assertRaises(InvalidCell):
            with store.trial():
                self.change_all(store)
                store.lay([9, 9], "x")
        self.assertEqual(undone(store), before)

    def test_left_by_return_and_break(self):
        store = filled()
        before = undone(store)

        def left():
            with store.trial():
                self.change_all(store)
                return len(store)

        self.assertEqual(left(), 3)
        for _ in range(3):
            with store.trial():
                self.change_all(store)
                break
        self.assertEqual(undone(store), before)

    def test_undo_inside(self):
        store = filled()
        before = undone(store)
        with store.trial():
            for _ in range(4):
                store.undo()
            self.assertEqual(all_of(store), ([], 0, SIZES, None))
            self.assertRaises(NothingToUndo, store.undo)
            store.grow("n")
        self.assertEqual(undone(store), before)
        self.assertEqual(store.grow("n"), 1)

    def test_room_set_inside(self):
        store = filled()
        for inside, outside in [(5, None), (None, 8), (3, 0), (0, 3)]:
            store.room = outside
            with store.trial():
                store.room = inside
                self.assertEqual(store.room, inside)
            self.assertEqual(store.room, outside)
            with store.trial():
                store.limit(inside)
            self.assertEqual(store.room, outside)

    def test_a_trial_inside_a_trial(self):
        store = filled()
        before = undone(store)
        with store.trial() as one:
            store.lay([1, 1], "one")
            store.limit(30)
            between = undone(store)
            with store.trial() as two:
                self.assertIs(one, two)
                self.change_all(store)
                with self.assertRaises(Wall):
                    with store.trial():
                        store.undo()
                        store.undo()
                        raise Wall()
                store.lay([1, 1], "two")
            self.assertEqual(undone(store), between)
            store.undo()
            self.assertEqual(undone(store)[0][0], before[0][0])
        self.assertEqual(undone(store), before)

    def test_one_trial_after_the_other(self):
        store = filled()
        before = undone(store)
        for _ in range(50):
            with store.trial():
                self.change_all(store)
        self.assertEqual(undone(store), before)

    def test_a_call_alone(self):
        store = filled()
        before = undone(store)
        kept = store.trial()
        store.trial()
        self.assertEqual(undone(store), before)
        store.lay([1, 1], "before the block")
        before = undone(store)
        with kept as name:
            self.assertIs(name, store)
            store.take([1, 1])
        self.assertEqual(undone(store), before)

    def test_items_are_not_restored_within(self):
        store = Store(ROWS, SIZES)
        item = []
        store.lay([0, 0], item)
        with store.trial():
            store.look([0, 0]).append("x")
            store.take([0, 0])
        self.assertIs(store.look([0, 0]), item)
        self.assertEqual(item, ["x"])

    def test_changes_behind_a_trial(self):
        store = filled()
        with store.trial():
            store.grow("m")
            store.lay([3, 4], "x")
        self.assertRaises(InvalidCell, store.look, [3, 4])
        store.grow("n")
        self.assertEqual(store.sizes(), {"m": 3, "n": 6})
        store.undo()
        self.assertEqual(store.sizes(), {"m": 3, "n": 5})

    def test_two_stores(self):
        one, two = filled(), filled()
        before = undone(one)
        with one.trial():
            with two.trial():
                self.change_all(one)
                two.lay([1, 1], "two")
            self.assertEqual(undone(two), before)
            two.lay([1, 1], "kept")
        self.assertEqual(undone(one), before)
        self.assertEqual(two.look([1, 1]), "kept")


class Attempts(unittest.TestCase):

    def test_what_is_returned(self):
        store = filled()
        before = undone(store)
        given = []

        def action(*names):
            given.extend(names)
            store.lay([1, 1], "z")
            return [names[0].held(), len(store)]

        held, many = store.attempt(action)
        self.assertEqual((len(given), given[0] is store), (1, True))
        self.assertEqual((len(held), many), (3, 3))
        self.assertEqual(undone(store), before)
        item = object()
        self.assertIs(store.attempt(lambda name: item), item)
        self.assertIsNone(store.attempt(lambda name: None))
        self.assertIs(store.attempt(lambda name: name), store)

    def test_errors(self):
        store = filled()
        before = undone(store)
        error = Wall()

        def action(name):
            name.undo()
            name.room = 4
            raise error

        with self.assertRaises(Wall) as caught:
            store.attempt(action)
        self.assertIs(caught.exception, error)
        self.assertEqual(undone(store), before)
        with self.assertRaises(NoRoom):
            store.attempt(lambda name: [name.limit(1), name.lay([1, 1], "x")])
        self.assertEqual(undone(store), before)

    def test_nested(self):
        store = Store(ROWS, {"m": 30, "n": 30})
        before = undone(store)

        def action(name):
            depth = len(name)
            name.lay([depth, depth], depth)
            inner = name.attempt(action) if depth < 20 else []
            self.assertEqual(len(name), depth + 1)
            return [depth, *inner]

        self.assertEqual(store.attempt(action), list(range(21)))
        self.assertEqual(undone(store), before)

    def test_errors_of_nested_ones(self):
        store = filled()

        def inner(name):
            name.lay([0, 0], "inner")
            raise Wall()

        def outer(name):
            name.lay([1, 1], "outer")
            try:
                name.attempt(inner)
            except Wall:
                return (name.look([0, 0]), name.look([1, 1]))
            return None

        self.assertEqual(store.attempt(outer), (None, "outer"))
        self.assertIsNone(store.look([1, 1]))


class Copies(unittest.TestCase):

    def test_the_same(self):
        store = filled()
        store.limit(40)
        other = store.copy()
        self.assertIs(other.__class__, Store)
        self.assertIsNot(other, store)
        self.assertEqual(undone(other), undone(store))
        for _ in range(4):
            self.assertEqual(all_of(other), all_of(store))
            store.undo()
            other.undo()
        self.assertEqual(all_of(other), ([], 0, SIZES, 40))
        self.assertRaises(NothingToUndo, other.undo)

    def test_independent(self):
        store = filled()
        store.limit(40)
        other = store.copy()
        before = undone(other)
        store.lay([0, 1], "z")
        store.grow("m")
        store.room = None
        for _ in range(6):
            store.undo()
        self.assertEqual(undone(other), before)
        again = other.copy()
        other.undo()
        other.lay([1, 0], "o")
        other.limit(9)
        self.assertEqual(undone(again), before)
        self.assertEqual(all_of(store), ([], 0, SIZES, None))

    def test_the_very_same_items(self):
        store = Store(ROWS, SIZES)
        one, two = ["one"], ["two"]
        store.lay([0, 0], one)
        store.lay([0, 0], two)
        other = store.copy()
        self.assertIs(other.look([0, 0]), two)
        other.undo()
        self.assertIs(other.look([0, 0]), one)
        self.assertIs(store.look([0, 0]), two)

    def test_made_inside_a_trial(self):
        store = filled()
        before = undone(store)
        with store.trial():
            store.lay([1, 1], "inside")
            store.limit(33)
            store.grow("n")
            inside = undone(store)
            other = store.copy()
            store.undo()
        self.assertEqual(undone(other), inside)
        self.assertEqual(undone(store), before)
        other.undo()
        self.assertEqual((other.look([1, 1]), other.room, other.sizes()), ("inside", 33, {"m": 3, "n": 5}))
        self.assertEqual(undone(store), before)
        kept = store.attempt(lambda name: [name.grow("m"), name.copy()][1])
        self.assertEqual((kept.sizes(), store.sizes()), ({"m": 4, "n": 5}, {"m": 3, "n": 5}))

    def test_trials_of_a_copy(self):
        store = filled()
        other = store.copy()
        before = undone(store)
        with store.trial():
            with other.trial():
                other.undo()
                store.lay([0, 0], "x")
            self.assertEqual(undone(other), before)
            self.assertEqual(store.look([0, 0]), "x")
        self.assertEqual(undone(store), before)


if __name__ == "__main__":
    unittest.main()
