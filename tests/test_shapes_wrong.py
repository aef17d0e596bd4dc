"""[2], [20] to [23], [31], [40], [41], [45], [46]: wrong arguments of shapes and of all that takes shapes."""

import unittest

from cellplaces.errors import InvalidCell, InvalidForm, InvalidLoops, InvalidNumber, InvalidShape, InvalidValues
from cellplaces.errors import MismatchedShapes, ShortLoop
from cellplaces.forms import letter, number
from cellplaces.judged import differ, wrong_at
from cellplaces.orders import laid, same_cells
from cellplaces.places import cell_at, count, next_cell, place, place_of
from cellplaces.shapes import Shape, shortage, walk
from cellplaces.texts import read
from samples import any_objects, is_form, is_letter, is_shape, is_whole
from tables import loops_of, shape_of
from wrong import Check

HALF = shape_of(("i", "0", "n"), ("j", "0", "i + 1"))
FIXED = shape_of(("i", "0", "3"))
WRONG_VALUES = [{}, {"m": 3}, {"n": 0}, {"n": -1}, {"n": True}, {"n": None}, {"n": "3"}, {"n": [3]}, {"n": letter("n")},
                {"n": 3, "m": None}, {"n": 3, "m": True}, {"n": 3, "": 1}, {"n": 3, "M": 1}, {"n": 3, 1: 1},
                {"n": 3, ("m",): 1}, {"n": 3, "abcdefghijk": 1}, {"n": 3, None: 1}, [("n", 3)], ("n", 3), [{"n": 3}]]


class Loops(Check):

    def wrong(self, loops):
        self.check(InvalidLoops, loops, Shape)
        self.check(InvalidLoops, loops, shortage)

    def test_other_objects(self):
        for wrong in any_objects():
            self.wrong(wrong)
        self.wrong(HALF)
        self.wrong(tuple(HALF.loops()))
        self.wrong({"i": number(0)})
        self.wrong(HALF.loops()[0])

    def test_other_objects_for_loops(self):
        for wrong in any_objects():
            if wrong.__class__ is not tuple or len(wrong) != 3 or not is_letter(wrong[0]):
                self.wrong([wrong])
                self.wrong([*HALF.loops(), wrong])
        self.wrong([list(HALF.loops()[0])])
        self.wrong([("i", number(0))])
        self.wrong([("i", number(0), number(1), number(1))])

    def test_other_objects_in_loops(self):
        for wrong in any_objects():
            if not is_letter(wrong):
                self.wrong([(wrong, number(0), number(1))])
                self.wrong([*HALF.loops(), (wrong, number(0), number(1))])
            if not is_form(wrong):
                self.wrong([("k", wrong, number(1))])
                self.wrong([("k", number(0), wrong)])
                self.wrong([*HALF.loops(), ("k", wrong, wrong)])

    def test_same_names(self):
        self.wrong(loops_of(("i", "0", "n"), ("i", "0", "n")))
        self.wrong(loops_of(("i", "0", "n"), ("j", "0", "n"), ("i", "0", "j + 1")))

    def test_bounds_that_are_not_straight(self):
        for text in ["n*n", "n*m", "i*n", "i*i", "n/2", "1/2", "i/3", "n + 1/2", "3*i/2 - n", "n*n*n - n"]:
            self.wrong(loops_of(("i", "0", "n"), ("j", text, "n")))
            self.wrong(loops_of(("i", "0", "n"), ("j", "0", text)))
        self.wrong(loops_of(("i", "n*n", "n*n + 1")))
        self.wrong(loops_of(("i", "n/2", "n/2 + 1")))

    def test_names_in_bounds(self):
        self.wrong(loops_of(("i", "i", "n")))
        self.wrong(loops_of(("i", "0", "i + 1")))
        self.wrong(loops_of(("i", "0", "j + 1"), ("j", "0", "n")))
        self.wrong(loops_of(("i", "j", "j + 1"), ("j", "0", "n")))
        self.wrong(loops_of(("i", "0", "n"), ("j", "0", "j + 1")))
        self.wrong(loops_of(("i", "0", "n"), ("j", "0", "k + n"), ("k", "0", "n")))

    def test_wrong_loops_before_short_ones(self):
        self.wrong(loops_of(("i", "0", "0"), ("i", "0", "n")))
        self.wrong([*loops_of(("i", "0", "0")), None])
        self.wrong(loops_of(("i", "0", "0"), ("j", "0", "n*n")))

    def test_not_wrong(self):
        self.assertEqual(Shape(loops_of(("i", "n*n - n*n", "2*n/2"))).sizes(), ["n"])
        with self.assertRaises(ShortLoop):
            Shape(loops_of(("i", "0", "0")))


class Shapes(Check):
    """The arguments behind the shape are wrong, too: the first one is told."""

    def test_no_shape(self):
        for wrong in any_objects() + [HALF.loops(), [HALF], (HALF,)]:
            if not is_shape(wrong):
                self.check(InvalidShape, wrong, count)
                self.check(InvalidShape, wrong, place)
                self.check(InvalidShape, wrong, lambda shape: walk(shape, None, None))
                self.check(InvalidShape, wrong, lambda shape: place_of(shape, None, None))
                self.check(InvalidShape, wrong, lambda shape: cell_at(shape, None, None))
                self.check(InvalidShape, wrong, lambda shape: next_cell(shape, None, None))
                self.check(InvalidShape, wrong, lambda shape: differ(shape, None, None))
                self.check(InvalidShape, wrong, lambda shape: wrong_at(shape, None))
                self.check(InvalidShape, wrong, lambda one: same_cells(one, None))
                self.check(InvalidShape, wrong, lambda one: same_cells(one, HALF))
                self.check(InvalidShape, wrong, lambda other: same_cells(HALF, other))

    def test_right_arguments_behind_no_shape(self):
        for wrong in [None, HALF.loops(), number(0)]:
            self.check(InvalidShape, wrong, lambda shape: walk(shape, {"n": 3}, 2))
            self.check(InvalidShape, wrong, lambda shape: place_of(shape, {"n": 3}, [0, 0]))
            self.check(InvalidShape, wrong, lambda shape: cell_at(shape, {"n": 3}, 0))
            self.check(InvalidShape, wrong, lambda shape: next_cell(shape, {"n": 3}, [0, 0]))
            self.check(InvalidShape, wrong, lambda shape: differ(shape, letter("i"), letter("j")))
            self.check(InvalidShape, wrong, lambda shape: wrong_at(shape, letter("i")))

    def test_laid(self):
        for wrong in any_objects():
            if wrong.__class__ is not list or not all(map(is_shape, wrong)) or not wrong:
                self.check(InvalidShape, wrong, laid)
            if not is_shape(wrong):
                self.check(InvalidShape, [wrong], laid)
                self.check(InvalidShape, [HALF, wrong], laid)
                self.check(InvalidShape, [wrong, HALF, FIXED], laid)
        for wrong in [[], HALF, (HALF,), {"a": HALF}, [[HALF]], [HALF, FIXED, None]]:
            self.check(InvalidShape, wrong, laid)

    def test_mismatched(self):
        swapped = shape_of(("j", "0", "n"), ("i", "0", "n"))
        self.assertIsNone(same_cells(shape_of(("i", "0", "n"), ("j", "0", "n")), swapped))
        for shapes in [[HALF, FIXED], [HALF, swapped], [HALF, HALF, swapped, HALF], [FIXED, shape_of(("j", "0", "3"))]]:
            with self.assertRaises(MismatchedShapes):
                laid(shapes)
        longer = shape_of(("i", "0", "n"), ("j", "0", "n"), ("k", "0", "n"))
        for other in [FIXED, longer, shape_of(("i", "0", "n"), ("k", "0", "n"))]:
            for one, two in [(HALF, other), (other, HALF)]:
                with self.assertRaises(MismatchedShapes):
                    same_cells(one, two)


class Values(Check):

    def works(self):
        return [lambda values: walk(HALF, values, None), lambda values: walk(HALF, values, 2),
                lambda values: place_of(HALF, values, None), lambda values: place_of(HALF, values, [0, 0]),
                lambda values: cell_at(HALF, values, None), lambda values: cell_at(HALF, values, 0),
                lambda values: next_cell(HALF, values, None), lambda values: next_cell(HALF, values, [0, 0])]

    def test_other_objects(self):
        for work in self.works():
            for wrong in any_objects() + WRONG_VALUES:
                self.check(InvalidValues, wrong, work)

    def test_several_sizes(self):
        shape = shape_of(("i", "0", "m + n"))
        for wrong in [{"m": 1}, {"n": 1}, {"m": 1, "n": 0}, {"m": 0, "n": 1}, {"m": 1, "n": 1, "o": "1"}]:
            self.check(InvalidValues, wrong, lambda values: walk(shape, values, 2))

    def test_without_sizes(self):
        for wrong in any_objects():
            if wrong.__class__ is not dict:
                self.check(InvalidValues, wrong, lambda values: walk(FIXED, values, 2))
                self.check(InvalidValues, wrong, lambda values: cell_at(FIXED, values, 2))
        self.assertEqual(walk(FIXED, {}, 2), [[0], [1]])
        self.assertEqual(walk(FIXED, {"i": -1}, 2), [[0], [1]])


class Numbers(Check):

    def test_walk(self):
        for wrong in any_objects() + [-5, [3], "3"]:
            if not is_whole(wrong) or wrong < 0:
                self.check(InvalidNumber, wrong, lambda count: walk(HALF, {"n": 3}, count))
                self.check(InvalidNumber, wrong, lambda count: walk(FIXED, {}, count))

    def test_cell_at(self):
        for wrong in any_objects() + [-1, 6, 7, 10 ** 200]:
            if not is_whole(wrong) or not 0 <= wrong < 6:
                self.check(InvalidNumber, wrong, lambda place: cell_at(HALF, {"n": 3}, place))
        self.check(InvalidNumber, 3, lambda place: cell_at(FIXED, {}, place))
        cells = 10 ** 30 * (10 ** 30 + 1) // 2
        self.check(InvalidNumber, cells, lambda place: cell_at(HALF, {"n": 10 ** 30}, place))
        self.assertEqual(cell_at(HALF, {"n": 10 ** 30}, cells - 1), [10 ** 30 - 1, 10 ** 30 - 1])


class Cells(Check):

    def test_other_objects(self):
        for wrong in any_objects() + [[0], [0, 0, 0], (0, 0), {0: 0, 1: 0}, [0, False], [True, 0], [0, None], ["0", 0],
                                      [[0], 0], [0, number(0)], [[0, 0]], "00", {"i": 0, "j": 0}]:
            self.check(InvalidCell, wrong, lambda cell: place_of(HALF, {"n": 3}, cell))
            self.check(InvalidCell, wrong, lambda cell: next_cell(HALF, {"n": 3}, cell))

    def test_outside_of_the_bounds(self):
        for wrong in [[-1, 0], [3, 0], [0, 1], [1, 2], [2, -1], [2, 3], [10 ** 200, 0], [0, -10 ** 200]]:
            self.check(InvalidCell, wrong, lambda cell: place_of(HALF, {"n": 3}, cell))
            self.check(InvalidCell, wrong, lambda cell: next_cell(HALF, {"n": 3}, cell))
        shape = shape_of(("i", "n", "n + 2"), ("j", "i - 1", "i + 1"))
        for wrong in [[2, 2], [3, 1], [3, 4], [5, 4], [4, 2], [4, 5], [0, 0]]:
            self.check(InvalidCell, wrong, lambda cell: place_of(shape, {"n": 3}, cell))
            self.check(InvalidCell, wrong, lambda cell: next_cell(shape, {"n": 3}, cell))

    def test_cells_of_other_sizes(self):
        self.assertEqual(place_of(HALF, {"n": 4}, [3, 3]), 9)
        self.check(InvalidCell, [3, 3], lambda cell: place_of(HALF, {"n": 3}, cell))


class Formulas(Check):

    def test_other_objects(self):
        for wrong in any_objects() + [letter("m"), letter("k") + 1, read("i + j + n + m"), "i + j", [read("i")]]:
            if not is_form(wrong) or set(wrong.letters()) - {"i", "j", "n"}:
                for right in [letter("i"), None, letter("m"), number(0)]:
                    self.check(InvalidForm, wrong, lambda one: differ(HALF, one, right))
                for right in [letter("i"), letter("n"), number(0)]:
                    self.check(InvalidForm, wrong, lambda other: differ(HALF, right, other))
                self.check(InvalidForm, wrong, lambda formula: wrong_at(HALF, formula))

    def test_letters_of_another_shape(self):
        for wrong in [letter("n"), letter("j"), letter("i") * letter("n")]:
            self.check(InvalidForm, wrong, lambda formula: wrong_at(FIXED, formula))
            self.check(InvalidForm, wrong, lambda one: differ(FIXED, one, one))

    def test_letters_that_cancel_out(self):
        self.assertIsNone(wrong_at(FIXED, read("i + n - n")))


if __name__ == "__main__":
    unittest.main()
