"""[20], [21], [22], [23]: shapes."""

import random
import unittest

from cellplaces.errors import ShortLoop
from cellplaces.forms import letter, number
from cellplaces.shapes import Shape, shortage, walk
from cellplaces.texts import read
from samples import any_objects
from tables import has_turn, is_cell, letters_of, loops_of, random_loops, random_shape, shape_of, shorts
from tables import sizes_up_to, stepped

HALF = shape_of(("i", "0", "n"), ("j", "0", "i + 1"))
BIG = 10 ** 30 - 1


class Examples(unittest.TestCase):

    def test_examples_of_the_document(self):
        half = Shape([("i", read("0"), read("n")), ("j", read("0"), read("i + 1"))])
        self.assertEqual(half.sizes(), ["n"])
        self.assertEqual(walk(half, {"n": 3}, 5), [[0, 0], [1, 0], [1, 1], [2, 0], [2, 1]])
        name, values, cell = shortage([("i", read("0"), read("n")), ("j", read("i"), read("m"))])
        self.assertEqual((name, sorted(values), len(cell)), ("j", ["m", "n"], 1))
        self.assertGreater(values["n"], values["m"])
        self.assertTrue(values["m"] <= cell[0] < values["n"])


class Asked(unittest.TestCase):

    def test_names_and_loops(self):
        loops = loops_of(("r", "0", "m"), ("c", "r", "r + n"), ("a", "c - r", "c + 2*b"))
        shape = Shape(loops)
        self.assertEqual(shape.names(), ["r", "c", "a"])
        self.assertEqual(len(shape), 3)
        self.assertEqual(shape.sizes(), ["b", "m", "n"])
        self.assertTrue(shape.loops() == loops)
        self.assertTrue(all(loop.__class__ is tuple for loop in shape.loops()))
        self.assertTrue(Shape(loops=loops) == shape)

    def test_sizes(self):
        self.assertEqual(shape_of(("i", "0", "3")).sizes(), [])
        self.assertEqual(shape_of(("i", "b - b", "a + zz")).sizes(), ["a", "zz"])
        self.assertEqual(shape_of(("j", "n", "n + 1"), ("i", "j - n", "j + n + m")).sizes(), ["m", "n"])
        self.assertEqual(shape_of(("abcdefghij", "0", "abcdefghii")).sizes(), ["abcdefghii"])

    def test_sizes_are_no_names(self):
        shape = shape_of(("i", "0", "n"), ("j", "0", "i + 1"), ("k", "i + j", "2*i + 2*j + 1"))
        self.assertEqual(shape.sizes(), ["n"])

    def test_equal(self):
        self.assertTrue(HALF == shape_of(("i", "0", "n"), ("j", "0", "1 + i")))
        self.assertFalse(HALF != shape_of(("i", "i - i", "2*n - n"), ("j", "0*j", "i + 1")))
        others = [shape_of(("i", "0", "m"), ("j", "0", "i + 1")), shape_of(("i", "0", "n"), ("k", "0", "i + 1")),
                  shape_of(("i", "0", "n")), shape_of(("i", "0", "n"), ("j", "0", "i + 2")),
                  shape_of(("j", "0", "n"), ("i", "0", "j + 1")), shape_of(("i", "1", "n + 1"), ("j", "0", "i + 1"))]
        for other in others:
            self.assertTrue(HALF != other)
            self.assertFalse(HALF == other)

    def test_not_equal_to_other_objects(self):
        for other in any_objects() + [HALF.loops(), HALF.names(), read("n")]:
            self.assertFalse(HALF == other)
            self.assertTrue(HALF != other)

    def test_equal_is_not_the_same_cells(self):
        one = shape_of(("i", "0", "2"), ("j", "i", "i + 1"))
        self.assertFalse(one == shape_of(("j", "0", "2"), ("i", "j", "j + 1")))

    def test_lists_that_were_passed(self):
        loops = loops_of(("i", "0", "n"), ("j", "0", "i + 1"))
        shape = Shape(loops)
        loops[0] = ("i", number(0), letter("m"))
        loops.append(("k", number(0), number(1)))
        self.assertTrue(shape == HALF)
        self.assertEqual((len(shape), shape.sizes(), shape.names()), (2, ["n"], ["i", "j"]))

    def test_lists_that_were_returned(self):
        shape = Shape(HALF.loops())
        for asked in [shape.names, shape.loops, shape.sizes]:
            asked().clear()
            asked().append("k")
        shape.loops()[0] = None
        self.assertTrue(shape == HALF)
        self.assertEqual((len(shape), shape.sizes(), shape.names()), (2, ["n"], ["i", "j"]))

    def test_five_loops_and_more(self):
        rows = [("a", "0", "n")] + [(name, "0", before + " + 1") for before, name in zip("abcdefghijk", "bcdefghijkl")]
        for many in [5, 8, 12]:
            shape = shape_of(*rows[:many])
            self.assertEqual(len(shape), many)
            self.assertTrue(shape == shape_of(*rows[:many]))
        many = [("x", number(0), letter("n"))]
        for place in range(150):
            name = "x" + "abcdefghij"[place // 26] + "abcdefghijklmnopqrstuvwxyz"[place % 26]
            many.append((name, number(0), letter(many[-1][0]) + 1))
        self.assertEqual(len(Shape(many)), 151)


class Short(unittest.TestCase):

    def check(self, name, *rows):
        """Just this loop is told, with values and a cell for which it has no turn."""
        loops = loops_of(*rows)
        with self.subTest(rows):
            found = shortage(loops)
            self.assertTrue(found == shortage(loops=loops))
            if name is None:
                self.assertIsNone(found)
                self.assertTrue(Shape(loops).loops() == loops)
                return
            self.told(loops, found)
            self.assertEqual(found[0], name)

    def told(self, loops, found):
        """What `shortage` tells is of the right kinds and true."""
        with self.assertRaises(ShortLoop) as caught:
            Shape(loops)
        self.assertIs(caught.exception.__class__, ShortLoop)
        self.assertIs(found.__class__, tuple)
        name, values, cell = found
        self.assertEqual(caught.exception.name, name)
        self.assertEqual(sorted(values), letters_of(loops))
        self.assertTrue(all(worth.__class__ is int and worth >= 1 for worth in values.values()))
        at = [loop[0] for loop in loops].index(name)
        self.assertIs(cell.__class__, list)
        self.assertEqual(len(cell), at)
        self.assertTrue(all(index.__class__ is int for index in cell))
        self.assertTrue(is_cell(loops[:at], values, cell))
        self.assertFalse(has_turn(loops, at, values, cell))
        if at > 0:
            self.assertIsNone(shortage(loops[:at]))

    def test_one_loop(self):
        self.check(None, ("i", "0", "1"))
        self.check("i", ("i", "0", "0"))
        self.check("i", ("i", "1", "0"))
        self.check(None, ("i", "0", "n"))
        self.check(None, ("i", "1", "n + 1"))
        self.check("i", ("i", "1", "n"))
        self.check("i", ("i", "0", "n - 1"))
        self.check(None, ("i", "-n", "0"))
        self.check(None, ("i", "n", "2*n"))
        self.check("i", ("i", "n", "m"))
        self.check("i", ("i", "n", "m + 1000"))
        self.check(None, ("i", "0", "n + m - 1"))
        self.check("i", ("i", "0", "n + m - 2"))
        self.check("i", ("i", "0", "5*m - n"))

    def test_on_outer_loops(self):
        self.check(None, ("i", "0", "n"), ("j", "0", "i + 1"))
        self.check("j", ("i", "0", "n"), ("j", "0", "i"))
        self.check(None, ("i", "1", "n + 1"), ("j", "0", "i"))
        self.check(None, ("i", "0", "n"), ("j", "i", "n"))
        self.check("j", ("i", "0", "n"), ("j", "i + 1", "n"))
        self.check("j", ("i", "0", "n"), ("j", "i", "m"))
        self.check(None, ("i", "0", "n"), ("j", "i", "n + m - 1"))
        self.check(None, ("i", "-n", "1"), ("j", "i", "1"))
        self.check("j", ("i", "-n", "1"), ("j", "i", "0"))

    def test_on_several_outer_loops(self):
        self.check(None, ("i", "0", "n"), ("j", "0", "i + 1"), ("k", "j", "i + 1"))
        self.check("k", ("i", "0", "n"), ("j", "0", "i + 1"), ("k", "j", "i"))
        self.check(None, ("i", "0", "n"), ("j", "0", "n - i"), ("k", "0", "n - i - j"))
        self.check("k", ("i", "0", "n"), ("j", "0", "n"), ("k", "0", "n - i - j"))
        self.check(None, ("i", "0", "n"), ("j", "0", "m"), ("k", "i + j", "n + m - 1"))
        self.check("k", ("i", "0", "n"), ("j", "0", "m"), ("k", "i + j", "n + m - 2"))
        self.check(None, ("i", "0", "n"), ("j", "i", "2*i + m"), ("k", "3*j - 2*i", "4*j + 1 - 2*i"))
        self.check("k", ("i", "0", "n"), ("j", "i", "2*i + m"), ("k", "4*j - 3*i", "4*i + m"))
        self.check(None, ("a", "0", "n"), ("b", "a", "n"), ("c", "b - a", "n"), ("d", "a + b + c", "3*n"))
        self.check("d", ("a", "0", "n"), ("b", "a", "n"), ("c", "b - a", "n"), ("d", "a + b + c", "3*n - 3"))
        self.check(None, ("a", "0", "n"), ("b", "a", "n"), ("c", "b - a", "n"), ("d", "a + b + c", "3*n - 2"))

    def test_the_first_short_loop(self):
        self.check("i", ("i", "0", "n - 1"), ("j", "0", "0"))
        self.check("j", ("i", "0", "n"), ("j", "i", "i"), ("k", "0", "n - 1"))
        self.check("k", ("i", "0", "n"), ("j", "i", "i + 1"), ("k", "n", "m"), ("z", "0", "0"))

    def test_sizes_of_later_loops(self):
        found = shortage(loops_of(("i", "0", "n - 1"), ("j", "i", "q"), ("k", "p", "p")))
        self.assertEqual((found[0], sorted(found[1]), found[2]), ("i", ["n", "p", "q"], []))

    def test_far_sizes(self):
        far = str(BIG)
        self.check("i", ("i", "n", "m + " + far))
        self.check("j", ("i", "0", "n"), ("j", far + "*i", far + "*m + 1"))
        self.check("j", ("i", "0", "n"), ("j", "0", far + " - i"))
        self.check(None, ("i", "0", "n"), ("j", "i*" + far, far + "*n - " + far + " + 1"))
        self.check("j", ("i", "0", "n"), ("j", "i*" + far, far + "*n - " + far))
        self.check("k", ("i", "-" + "9" * 200, "n"), ("j", "i", "n"), ("k", "j", "9*m + i*0 - j + " + "8" * 200))

    def test_at_random(self):
        rolls = random.Random(21)
        told = 0
        for _ in range(1500):
            loops = random_loops(rolls, rolls.choice([1, 2, 3, 3, 4]), rolls.choice([[], ["n"], ["m", "n"]]))
            found = shortage(loops)
            seen = shorts(loops, 4) if len(loops) < 4 else set()
            if found is None:
                self.assertEqual(seen, set())
                self.assertTrue(Shape(loops).loops() == loops)
            else:
                told += 1
                self.told(loops, found)
                at = [loop[0] for loop in loops].index(found[0])
                self.assertTrue(all(at <= number for number in seen))
        self.assertTrue(300 < told < 1200, told)

    def test_results_that_were_changed(self):
        loops = loops_of(("i", "0", "n"), ("j", "i", "m"))
        first = shortage(loops)
        kept = repr(first)
        again = shortage(loops)
        again[1].clear()
        again[2].append(7)
        self.assertEqual(repr(shortage(loops)), kept)
        self.assertEqual(repr(first), kept)


class Walk(unittest.TestCase):

    def test_against_the_loops(self):
        shapes = [HALF, shape_of(("i", "-n", "n"), ("j", "i", "2*n"), ("k", "i - j", "1 + n")),
                  shape_of(("i", "3", "5")), shape_of(("a", "m", "m + n"), ("b", "-a", "n - a")),
                  shape_of(("a", "0", "2"), ("b", "a", "2"), ("c", "0", "a + b + 1"), ("d", "c", "c + 2"))]
        for shape in shapes:
            for values in sizes_up_to(shape.sizes(), 4):
                cells = stepped(shape.loops(), values)
                for count in [0, 1, 2, len(cells) - 1, len(cells), len(cells) + 1, 1000]:
                    self.assertEqual(walk(shape, values, count), cells[:count])

    def test_at_random(self):
        rolls = random.Random(23)
        for _ in range(100):
            shape = random_shape(rolls, rolls.choice([1, 2, 3]), rolls.choice([[], ["n"], ["m", "n"]]))
            for values in sizes_up_to(shape.sizes(), 4):
                self.assertEqual(walk(shape, values, 50), stepped(shape.loops(), values)[:50])

    def test_by_names(self):
        self.assertEqual(walk(shape=HALF, values={"n": 2}, count=9), [[0, 0], [1, 0], [1, 1]])

    def test_other_letters_in_values(self):
        values = {"n": 2, "i": -5, "j": 10 ** 9, "k": 0, "zz": -1}
        self.assertEqual(walk(HALF, values, 9), [[0, 0], [1, 0], [1, 1]])
        self.assertEqual(values, {"n": 2, "i": -5, "j": 10 ** 9, "k": 0, "zz": -1})
        self.assertEqual(walk(shape_of(("i", "0", "2")), {"i": 7, "n": -3}, 9), [[0], [1]])

    def test_big_sizes(self):
        shape = shape_of(("i", "n - m", "n"), ("j", "i", "i + m*" + "9" * 200))
        cells = walk(shape, {"n": BIG, "m": 10 ** 29}, 1000)
        self.assertEqual(cells, [[BIG - 10 ** 29, BIG - 10 ** 29 + step] for step in range(1000)])
        self.assertEqual(walk(shape_of(("i", "n", "n + 2")), {"n": BIG}, 1000), [[BIG], [BIG + 1]])

    def test_a_count_beyond_the_limits(self):
        self.assertEqual(walk(HALF, {"n": 2}, 10 ** 300), [[0, 0], [1, 0], [1, 1]])
        self.assertEqual(len(walk(HALF, {"n": BIG}, 20000)), 20000)

    def test_cells_that_were_changed(self):
        first = walk(HALF, {"n": 2}, 9)
        first[0].append(5)
        first[1][0] = 7
        self.assertEqual(first[2:], [[1, 1]])
        self.assertEqual(walk(HALF, {"n": 2}, 9), [[0, 0], [1, 0], [1, 1]])


if __name__ == "__main__":
    unittest.main()
