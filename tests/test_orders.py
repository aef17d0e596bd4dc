"""[45], [46]: the same cells in another order, and shapes that are laid one behind the other."""

import random
import unittest

from cellplaces.orders import laid, same_cells
from cellplaces.places import count, place
from cellplaces.shapes import Shape
from cellplaces.texts import read
from tables import is_cell, random_shape, shape_of, sizes_up_to, stepped, value_of

HALF = shape_of(("i", "0", "n"), ("j", "0", "i + 1"))
STRICT = shape_of(("i", "0", "n"), ("j", "i", "n"))
COLUMNS = shape_of(("j", "0", "n"), ("i", "j", "n"))


def both_sizes(one, other):
    return sorted(set(one.sizes()) | set(other.sizes()))


def points(shape, values):
    """The cells as a set of sorted pairs of names and indices."""
    return {tuple(sorted(zip(shape.names(), cell))) for cell in stepped(shape.loops(), values)}


def is_point(shape, values, point):
    return is_cell(shape.loops(), values, [point[name] for name in shape.names()])


class Examples(unittest.TestCase):

    def test_examples_of_the_document(self):
        half = Shape([("i", read("0"), read("n")), ("j", read("0"), read("i + 1"))])
        columns = Shape([("j", read("0"), read("n")), ("i", read("j"), read("n"))])
        self.assertIsNone(same_cells(half, columns))
        self.assertTrue(place(columns) == read("j * n - j * (j - 1) / 2 + i - j"))
        strict = Shape([("i", read("0"), read("n")), ("j", read("i"), read("n"))])
        values, point = same_cells(half, strict)
        self.assertEqual((sorted(values), sorted(point)), (["n"], ["i", "j"]))
        self.assertNotEqual(is_point(half, values, point), is_point(strict, values, point))
        self.assertTrue(laid([half, strict])[1] == place(strict) + count(half))


class Same(unittest.TestCase):

    def same(self, one, other):
        with self.subTest(one=one.names(), other=other.names()):
            self.assertIsNone(same_cells(one, other))
            self.assertIsNone(same_cells(other, one))
            for values in sizes_up_to(both_sizes(one, other), 5):
                self.assertEqual(points(one, values), points(other, values))

    def unlike(self, one, other):
        for first, second in [(one, other), (other, one)]:
            found = same_cells(first, second)
            self.assertIsNotNone(found)
            self.told(first, second, found)

    def told(self, one, other, found):
        """What is told is of the right kinds and a cell of just one of the two."""
        self.assertIs(found.__class__, tuple)
        values, point = found
        self.assertEqual(sorted(values), both_sizes(one, other))
        self.assertTrue(all(worth.__class__ is int and worth >= 1 for worth in values.values()))
        self.assertIs(point.__class__, dict)
        self.assertEqual(sorted(point), sorted(one.names()))
        self.assertTrue(all(index.__class__ is int for index in point.values()))
        self.assertNotEqual(is_point(one, values, point), is_point(other, values, point))

    def test_same(self):
        self.same(HALF, HALF)
        self.same(HALF, COLUMNS)
        self.same(STRICT, shape_of(("j", "0", "n"), ("i", "0", "j + 1")))
        self.same(shape_of(("i", "0", "n"), ("j", "1 - m", "m")), shape_of(("j", "1 - m", "m"), ("i", "0", "n")))
        self.same(shape_of(("i", "0", "2"), ("j", "0", "i + 1")), shape_of(("i", "0", "2"), ("j", "0", "2*i + 1 - i")))
        self.same(shape_of(("i", "0", "n"), ("j", "i", "i + m")), shape_of(("i", "0", "n"), ("j", "i", "m + i")))

    def test_same_with_three_and_four_loops(self):
        one = shape_of(("i", "0", "n"), ("j", "0", "n - i"), ("k", "0", "n - i - j"))
        for names in [("j", "i", "k"), ("k", "j", "i"), ("k", "i", "j"), ("i", "k", "j")]:
            first, second, third = names
            self.same(one, shape_of((first, "0", "n"), (second, "0", "n - " + first),
                                    (third, "0", f"n - {first} - {second}")))
        chain = shape_of(("a", "0", "n"), ("b", "0", "a + 1"), ("c", "0", "b + 1"), ("d", "0", "m"))
        self.same(chain, shape_of(("d", "0", "m"), ("c", "0", "n"), ("b", "c", "n"), ("a", "b", "n")))
        self.same(chain, shape_of(("b", "0", "n"), ("c", "0", "b + 1"), ("d", "0", "m"), ("a", "b", "n")))

    def test_same_by_loops_of_one_turn(self):
        self.same(shape_of(("i", "n", "n + 1"), ("j", "0", "i + m")),
                  shape_of(("i", "n", "n + 1"), ("j", "0", "n + m")))
        self.same(shape_of(("i", "0", "n"), ("j", "i", "i + 1")), shape_of(("j", "0", "n"), ("i", "j", "j + 1")))
        self.same(shape_of(("i", "n", "n + 1"), ("j", "2*i", "3*i")),
                  shape_of(("j", "2*n", "3*n"), ("i", "n", "n + 1")))

    def test_unlike(self):
        self.unlike(HALF, STRICT)
        self.unlike(HALF, shape_of(("i", "0", "n"), ("j", "0", "n")))
        self.unlike(HALF, shape_of(("i", "0", "m"), ("j", "0", "i + 1")))
        self.unlike(HALF, shape_of(("i", "1", "n + 1"), ("j", "0", "i")))
        self.unlike(COLUMNS, shape_of(("i", "0", "n"), ("j", "0", "1")))
        self.unlike(shape_of(("i", "0", "3")), shape_of(("i", "1", "4")))
        self.unlike(shape_of(("i", "0", "3")), shape_of(("i", "0", "n")))
        self.unlike(shape_of(("i", "0", "n + m")), shape_of(("i", "0", "n + m + 1")))
        self.unlike(shape_of(("i", "0", "n + m")), shape_of(("i", "0", "2*n")))

    def test_far_bounds(self):
        far = "9" * 200
        one = shape_of(("i", "0", "n + " + far), ("j", "0", far + " + m"))
        self.assertIsNone(same_cells(one, shape_of(("j", "0", far + " + m"), ("i", "0", far + " + n"))))
        self.unlike(one, shape_of(("i", "0", "n + " + far), ("j", "-1", far + " + m")))
        self.unlike(shape_of(("i", "0", far), ("j", "0", "i + 1")), shape_of(("i", "0", far), ("j", "0", "n")))
        self.unlike(HALF, shape_of(("i", "0", "n"), ("j", "0", far + "*n - " + far + "*i + 1 + i")))

    def test_at_random(self):
        rolls = random.Random(45)
        same = 0
        for _ in range(400):
            many = rolls.choice([1, 2, 2, 3])
            shapes = {}
            for _ in range(4):
                shape = random_shape(rolls, many, rolls.choice([[], ["n"], ["m", "n"]]))
                shapes.setdefault(tuple(sorted(shape.names())), []).append(shape)
            for one, other in [pair for group in shapes.values() for pair in zip(group, group[1:])]:
                found = same_cells(one, other)
                if found is not None:
                    self.told(one, other, found)
                else:
                    same += 1
                    self.same(one, other)
        self.assertGreater(same, 3)

    def test_by_names_and_new_results(self):
        found = same_cells(one=HALF, other=STRICT)
        kept = repr(found)
        self.assertEqual(repr(same_cells(HALF, STRICT)), kept)
        found[0].clear()
        found[1]["k"] = 1
        self.assertEqual(repr(same_cells(HALF, STRICT)), kept)

    def test_more_loops_than_the_limits_name(self):
        names = "abcdefgh"
        rows = [("a", "0", "n")] + [(name, "0", before + " + 1") for before, name in zip(names, names[1:])]
        back = [("h", "0", "n")] + [(name, before, "n") for before, name in zip(names[::-1], names[-2::-1])]
        self.assertIsNone(same_cells(shape_of(*rows), shape_of(*back)))
        back[-1] = ("a", "b", "n + 1")
        found = same_cells(shape_of(*rows), shape_of(*back))
        self.told(shape_of(*rows), shape_of(*back), found)


class Laid(unittest.TestCase):

    def compare(self, shapes, most):
        """The forms lead from the cells of all shapes, in their order, to the places 0, 1, .."""
        forms = laid(shapes)
        self.assertEqual(len(forms), len(shapes))
        sizes = sorted({name for shape in shapes for name in shape.sizes()})
        for values in sizes_up_to(sizes, most):
            found = []
            for shape, form in zip(shapes, forms):
                for cell in stepped(shape.loops(), values):
                    found.append(value_of(form, {**values, **dict(zip(shape.names(), cell))}))
            self.assertEqual(found, list(range(len(found))))

    def test_against_the_loops(self):
        self.compare([HALF], 4)
        self.compare([HALF, STRICT], 4)
        self.compare([STRICT, HALF, STRICT, shape_of(("i", "-m", "1"), ("j", "i", "n"))], 5)
        self.compare([shape_of(("i", "0", "3")), shape_of(("i", "n", "n + m")), shape_of(("i", "-1", "0"))] * 2, 5)
        self.compare([HALF] * 20, 4)

    def test_at_random(self):
        rolls = random.Random(46)
        tried = 0
        while tried < 30:
            many = rolls.choice([1, 2, 3])
            shapes = [random_shape(rolls, many, rolls.choice([[], ["n"], ["m", "n"]])) for _ in range(3)]
            alike = [shape for shape in shapes if shape.names() == shapes[0].names()]
            if len(alike) > 1:
                tried += 1
                self.compare(alike, 4)

    def test_forms(self):
        wide = shape_of(("i", "0", "m"), ("j", "0", "n"))
        forms = laid(shapes=[wide, HALF, wide])
        self.assertTrue(forms[0] == read("i*n + j"))
        self.assertTrue(forms[1] == read("i*(i + 1)/2 + j + m*n"))
        self.assertTrue(forms[2] == read("i*n + j + m*n + n*(n + 1)/2"))

    def test_lists_stay(self):
        shapes = [HALF, STRICT]
        forms = laid(shapes)
        forms.clear()
        self.assertTrue(shapes == [HALF, STRICT])
        self.assertEqual(len(laid(shapes)), 2)
        again = laid(shapes)
        self.assertTrue(again == laid([HALF, STRICT]))


if __name__ == "__main__":
    unittest.main()
