"""[30], [31]: places."""

import random
import unittest

from cellplaces.forms import letter, number
from cellplaces.places import cell_at, count, next_cell, place, place_of
from cellplaces.shapes import Shape
from cellplaces.texts import read
from tables import random_shape, shape_of, sizes_up_to, stepped, value_of

HALF = shape_of(("i", "0", "n"), ("j", "0", "i + 1"))
BIG = 10 ** 30 - 1


def some_shapes():
    return [
        HALF,
        shape_of(("i", "0", "1")),
        shape_of(("i", "-2", "3")),
        shape_of(("i", "n", "n + m")),
        shape_of(("i", "0", "n"), ("j", "0", "m")),
        shape_of(("j", "0", "n"), ("i", "j", "n")),
        shape_of(("i", "-n", "n"), ("j", "i", "2*n")),
        shape_of(("i", "m", "m + 2*n"), ("j", "-i", "m - i")),
        shape_of(("i", "0", "n"), ("j", "0", "n - i"), ("k", "0", "n - i - j")),
        shape_of(("i", "1 - n", "n"), ("j", "i", "n + m"), ("k", "i - j", "2*n - i + j")),
        shape_of(("a", "0", "m"), ("b", "0", "n"), ("c", "0", "2"), ("d", "a - b", "a + c + 1")),
        shape_of(("a", "0", "n"), ("b", "0", "a + 1"), ("c", "b", "a + 1"), ("d", "0", "a + b + c + 1")),
        shape_of(("b", "x", "x + y"), ("a", "b - z", "b + 1"), ("d", "a + b - z", "a + b + y")),
    ]


class Examples(unittest.TestCase):

    def test_examples_of_the_document(self):
        half = Shape([("i", read("0"), read("n")), ("j", read("0"), read("i + 1"))])
        self.assertTrue(count(half) == read("n * (n + 1) / 2"))
        self.assertTrue(place(half) == read("i * (i + 1) / 2 + j"))
        self.assertEqual(place_of(half, {"n": 10 ** 20}, [10 ** 19, 7]), 50000000000000000005000000000000000007)
        self.assertEqual(cell_at(half, {"n": 10 ** 20}, 5 * 10 ** 37), [9999999999999999999, 5000000000000000000])
        self.assertEqual(next_cell(half, {"n": 3}, [1, 1]), [2, 0])
        self.assertIsNone(next_cell(half, {"n": 3}, [2, 2]))


class Stepped(unittest.TestCase):

    def compare(self, shape, most):
        """Count, places, cells and next cells are what stepping through all cells tells."""
        cells_form, place_form = count(shape), place(shape)
        self.assertLessEqual(cells_form.degree(), len(shape))
        self.assertLessEqual(place_form.degree(), len(shape))
        self.assertLessEqual(set(cells_form.letters()), set(shape.sizes()))
        self.assertLessEqual(set(place_form.letters()), set(shape.sizes() + shape.names()))
        for values in sizes_up_to(shape.sizes(), most):
            cells = stepped(shape.loops(), values)
            self.assertEqual(value_of(cells_form, values), len(cells))
            for at, cell in enumerate(cells):
                known = {**values, **dict(zip(shape.names(), cell))}
                self.assertEqual(value_of(place_form, known), at)
                self.assertEqual(place_of(shape, values, cell), at)
                self.assertEqual(cell_at(shape, values, at), cell)
                behind = next_cell(shape, values, cell)
                self.assertEqual(behind, cells[at + 1] if at + 1 < len(cells) else None)

    def test_some_shapes(self):
        for shape in some_shapes():
            with self.subTest(shape.names()):
                self.compare(shape, 5)

    def test_at_random(self):
        rolls = random.Random(30)
        for _ in range(60):
            self.compare(random_shape(rolls, rolls.choice([1, 2, 3, 3]), rolls.choice([[], ["n"], ["m", "n"]])), 4)


class Forms(unittest.TestCase):

    def test_well_known_forms(self):
        cube = shape_of(("i", "0", "n"), ("j", "0", "n - i"), ("k", "0", "n - i - j"))
        self.assertTrue(count(cube) == read("n * (n + 1) * (n + 2) / 6"))
        square = shape_of(("i", "0", "n"), ("j", "0", "m"))
        self.assertTrue(count(square) == read("n * m"))
        self.assertTrue(place(square) == read("i * m + j"))
        self.assertTrue(count(shape_of(("i", "n", "n + m"))) == read("m"))
        self.assertTrue(place(shape_of(("i", "n", "n + m"))) == read("i - n"))
        self.assertTrue(count(shape_of(("i", "-1", "6"))) == number(7))

    def test_by_names(self):
        self.assertTrue(count(shape=HALF) == count(HALF))
        self.assertTrue(place(shape=HALF) == place(HALF))
        self.assertEqual(place_of(shape=HALF, values={"n": 3}, cell=[2, 1]), 4)
        self.assertEqual(cell_at(shape=HALF, values={"n": 3}, place=4), [2, 1])
        self.assertEqual(next_cell(shape=HALF, values={"n": 3}, cell=[2, 1]), [2, 2])

    def test_equal_calls(self):
        for shape in some_shapes():
            again = Shape(shape.loops())
            self.assertTrue(count(shape) == count(again))
            self.assertTrue(place(shape) == place(again))
            count(shape).terms().clear()
            place(shape).letters().clear()
            self.assertTrue(count(shape) == count(again))
            self.assertTrue(place(shape) == place(again))

    def test_more_loops_than_the_limits_name(self):
        rows = [("a", "0", "n")] + [(name, "0", before + " + 1") for before, name in zip("abcdefg", "bcdefgh")]
        shape = shape_of(*rows)
        self.assertTrue(count(shape) == read("*".join(f"(n + {k})" for k in range(8)) + "/" + str(40320)))
        self.assertEqual(cell_at(shape, {"n": 10 ** 9}, place_of(shape, {"n": 10 ** 9}, [10 ** 8] * 8)), [10 ** 8] * 8)


class Big(unittest.TestCase):

    def back_and_forth(self, shape, values):
        """All that stands in a table too big to be stepped through."""
        cells = count(shape).at(values)
        form = place(shape)
        for at in [0, 1, 2, 10 ** 27 + 5, cells // 7, cells // 3, cells // 2, cells - 2, cells - 1]:
            cell = cell_at(shape, values, at)
            self.assertEqual(place_of(shape, values, cell), at)
            self.assertEqual(form.at({**values, **dict(zip(shape.names(), cell))}), at)
            behind = next_cell(shape, values, cell)
            if at == cells - 1:
                self.assertIsNone(behind)
            else:
                self.assertEqual(behind, cell_at(shape, values, at + 1))
        self.assertEqual(place_of(shape, values, cell_at(shape, values, cells - 1)) + 1, cells)

    def test_sizes_of_30_digits(self):
        for shape in some_shapes():
            if shape.sizes():
                self.back_and_forth(shape, {name: BIG - at for at, name in enumerate(shape.sizes())})
                self.back_and_forth(shape, {name: 10 ** 28 + 3 * at for at, name in enumerate(shape.sizes())})

    def test_indices_of_200_digits(self):
        wide = number(10 ** 169)
        shape = Shape([("i", letter("n") - 7, letter("n") * wide), ("j", -letter("i"), letter("i") * 2 + 33)])
        values = {"n": BIG}
        for cell in [[BIG - 7, -BIG + 7], [10 ** 198, 7], [10 ** 198 + 3, -10 ** 198 - 3], [BIG * 10 ** 169 - 1, 5]]:
            at = place_of(shape, values, cell)
            self.assertEqual(cell_at(shape, values, at), cell)
            self.assertEqual(cell_at(shape, values, at + 1), next_cell(shape, values, cell))
        self.assertEqual(next_cell(shape, values, [10 ** 198, 2 * 10 ** 198 + 32]), [10 ** 198 + 1, -10 ** 198 - 1])

    def test_many_letters(self):
        shape = shape_of(("i", "-3*l - m - n", "2*l + m + n"),
                         ("j", "i - 9*l - 9*m - 9*n", "2*i + 9*l + 9*m + 9*n + 3"),
                         ("k", "i + j - 99*l - 99*m - 99*n", "3*i + 2*j + 99*l + 199*m + 299*n"),
                         ("p", "i + j + k - 999*l", "i + j + k + 5*n + m"))
        self.back_and_forth(shape, {"l": BIG, "m": BIG - 10 ** 29, "n": 10 ** 28})

    def test_beyond_the_limits(self):
        self.back_and_forth(HALF, {"n": 10 ** 1000})
        self.back_and_forth(some_shapes()[8], {"n": 7 ** 900})


class Kept(unittest.TestCase):

    def test_arguments_stay_and_results_are_new(self):
        values, cell = {"n": 3, "i": -1, "k": 0}, [1, 1]
        self.assertEqual(place_of(HALF, values, cell), 2)
        behind = next_cell(HALF, values, cell)
        self.assertEqual(behind, [2, 0])
        behind.append(1)
        found = cell_at(HALF, values, 2)
        found.clear()
        self.assertEqual(next_cell(HALF, values, cell), [2, 0])
        self.assertEqual(cell_at(HALF, values, 2), [1, 1])
        self.assertEqual((values, cell), ({"n": 3, "i": -1, "k": 0}, [1, 1]))

    def test_other_letters_in_values(self):
        for values in [{"n": 3}, {"n": 3, "i": 77, "j": -1}, {"j": 5, "m": -10 ** 20, "n": 3}]:
            self.assertEqual(place_of(HALF, values, [2, 1]), 4)
            self.assertEqual(cell_at(HALF, values, 4), [2, 1])
            self.assertEqual(next_cell(HALF, values, [2, 1]), [2, 2])


if __name__ == "__main__":
    unittest.main()
