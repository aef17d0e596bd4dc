"""[40], [41]: formulas judged."""

import random
import unittest

from cellplaces.forms import letter, number
from cellplaces.judged import differ, wrong_at
from cellplaces.places import place
from cellplaces.shapes import Shape
from cellplaces.texts import read
from tables import random_shape, shape_of, sizes_up_to, stepped, value_of

HALF = shape_of(("i", "0", "n"), ("j", "0", "i + 1"))
PAIRS = shape_of(("r", "0", "n"), ("c", "0", "2"))
SMALL = shape_of(("i", "0", "2"), ("j", "0", "i + 1"))
BIG = 10 ** 30 - 1


def first_difference(shape, one, other, most):
    """What `differ` has to return, found by stepping through all tables up to this sum of sizes."""
    for values in sizes_up_to(shape.sizes(), most):
        for cell in stepped(shape.loops(), values):
            known = {**values, **dict(zip(shape.names(), cell))}
            if value_of(one, known) != value_of(other, known):
                return (values, cell)
    return None


def product_of(factors):
    found = number(1)
    for factor in factors:
        found = found * factor
    return found


class Examples(unittest.TestCase):

    def test_examples_of_the_document(self):
        self.assertIsNone(wrong_at(HALF, read("i * (i + 1) / 2 + j")))
        self.assertEqual(wrong_at(HALF, read("i * i - i + j + 1")), ({"n": 1}, [0, 0]))
        self.assertEqual(wrong_at(HALF, read("i + j")), ({"n": 3}, [2, 0]))
        self.assertIsNone(differ(PAIRS, read("c * c"), read("c")))
        self.assertEqual(differ(PAIRS, read("r * r"), read("r")), ({"n": 3}, [2, 0]))
        self.assertIsNone(wrong_at(PAIRS, read("2 * r + c * c")))
        self.assertIsNone(differ(SMALL, read("j * j"), read("j")))
        self.assertEqual(differ(SMALL, read("j * j"), read("j + i")), ({}, [1, 0]))
        self.assertEqual(differ(HALF, read("i / 2"), read("i / 3")), ({"n": 2}, [1, 0]))


class Order(unittest.TestCase):

    def test_lesser_sums_first(self):
        shape = shape_of(("i", "0", "m"), ("j", "0", "n"))
        m, n = letter("m"), letter("n")
        self.assertEqual(differ(shape, m * n, m + n - 1), ({"m": 2, "n": 2}, [0, 0]))
        self.assertEqual(differ(shape, m * (m - 1) * (m - 2), number(0)), ({"m": 3, "n": 1}, [0, 0]))
        self.assertEqual(differ(shape, (m - 1) * (m - 1), (n - 1) * (n - 1)), ({"m": 1, "n": 2}, [0, 0]))
        self.assertEqual(differ(shape, (m + n - 2) * (m + n - 3), number(0)), ({"m": 1, "n": 3}, [0, 0]))
        self.assertEqual(differ(shape, (m + n - 2) * (m + n - 3) * (m - 1), number(0)), ({"m": 2, "n": 2}, [0, 0]))

    def test_letters_sorted(self):
        shape = shape_of(("i", "0", "z + bb"), ("j", "0", "b + z"))
        self.assertEqual(differ(shape, read("b + bb + z"), number(3)), ({"b": 1, "bb": 1, "z": 2}, [0, 0]))
        self.assertEqual(differ(shape, read("(b + bb - 2) * z"), number(0)), ({"b": 1, "bb": 2, "z": 1}, [0, 0]))

    def test_first_cell_of_the_walk(self):
        shape = shape_of(("i", "-n", "n"), ("j", "i", "i + 3"))
        self.assertEqual(differ(shape, read("i"), read("j")), ({"n": 1}, [-1, 0]))
        self.assertEqual(differ(shape, read("(i + n) * j"), number(0)), ({"n": 1}, [0, 1]))
        self.assertEqual(differ(shape, read("(j - i) * (j - i - 1)"), number(0)), ({"n": 1}, [-1, 1]))
        self.assertEqual(differ(shape, read("(j - i) * (j - i - 1) * (j - i - 2)"), number(0)), None)

    def test_as_far_as_the_degree(self):
        for many in range(1, 6):
            deep = Shape([("i", letter("n"), letter("n") * 2), ("j", letter("i") - 3, letter("i") - 2 + letter("n"))])
            gap = product_of([letter("i") - letter("n") - at for at in range(many)])
            self.assertEqual(differ(deep, gap, number(0)), ({"n": many + 1}, [2 * many + 1, 2 * many - 2]))
            gap = product_of([letter("j") - letter("i") + 3 - at for at in range(many)])
            self.assertEqual(differ(deep, gap, number(0)), ({"n": many}, [many, 2 * many - 3]))
            gap = product_of([letter("n") - 1 - at for at in range(many)])
            self.assertEqual(differ(deep, gap, number(0)), ({"n": many + 1}, [many + 1, many - 2]))

    def test_loops_of_few_turns(self):
        for turns in range(1, 5):
            shape = shape_of(("i", "n", f"n + {turns}"), ("j", "0", "m"))
            factors = [letter("i") - letter("n") - at for at in range(turns)]
            self.assertIsNone(differ(shape, product_of(factors), number(0)))
            self.assertIsNone(differ(shape, product_of(factors) * letter("j"), number(0)))
            short = product_of(factors[:-1])
            self.assertEqual(differ(shape, short, number(0)), ({"m": 1, "n": 1}, [turns, 0]))
            self.assertEqual(differ(shape, short * letter("j"), number(0)), ({"m": 2, "n": 1}, [turns, 1]))


class Stepped(unittest.TestCase):

    def compare(self, shape, one, other):
        """What is told is what stepping tells, and lies where the document says."""
        gap = one - other
        most = gap.degree() + len(shape.sizes())
        found = differ(shape, one, other)
        self.assertEqual(found, first_difference(shape, one, other, most + 1))
        if found is not None:
            self.assertIs(found.__class__, tuple)
            self.assertLessEqual(sum(found[0].values()), most)
            known = {**found[0], **dict(zip(shape.names(), found[1]))}
            for name, low, _ in shape.loops():
                self.assertLessEqual(known[name] - value_of(low, known), gap.degree())
        self.assertEqual(differ(shape, other, one), found)
        self.assertIsNone(differ(shape, one, one))
        return found

    def factor(self, rolls, shape):
        """A form that is 0 at some cells, or for some sizes."""
        kind = rolls.randrange(4)
        if kind == 0 and shape.sizes():
            return letter(rolls.choice(shape.sizes())) - rolls.randrange(1, 3)
        name, low, high = rolls.choice(shape.loops())
        if kind == 1:
            return high - letter(name) - rolls.randrange(1, 3)
        return letter(name) - low - rolls.randrange(3)

    def test_at_random(self):
        rolls = random.Random(40)
        same = 0
        for _ in range(250):
            shape = random_shape(rolls, rolls.choice([1, 2, 2, 3]), rolls.choice([[], ["n"], ["n"], ["m", "n"]]))
            gap = number(0)
            for _ in range(rolls.choice([1, 1, 2])):
                gap = gap + product_of([self.factor(rolls, shape) for _ in range(rolls.randrange(4))])
            one = gap.over(rolls.choice([1, 2, -3])) + letter(shape.names()[0])
            same += self.compare(shape, one, letter(shape.names()[0])) is None
        self.assertTrue(10 < same < 200, same)

    def test_short_loops_at_random(self):
        rolls = random.Random(41)
        same = 0
        for _ in range(100):
            turns = [rolls.randrange(1, 4) for _ in range(2)]
            shape = shape_of(("i", "n", f"n + {turns[0]}"), ("j", "2*i - n", f"2*i - n + {turns[1]}"))
            i, j = letter("i") - letter("n"), letter("j") - letter("i") * 2 + letter("n")
            parts = [product_of([rolls.choice([i, j]) - rolls.randrange(3) for _ in range(4)]) for _ in range(2)]
            same += self.compare(shape, parts[0], number(0)) is None
            self.compare(shape, parts[0], parts[1])
        self.assertGreater(same, 5)

    def test_wrong_at_random(self):
        rolls = random.Random(42)
        for _ in range(60):
            shape = random_shape(rolls, rolls.choice([1, 2, 2, 3]), rolls.choice([[], ["n"], ["m", "n"]]))
            right = place(shape)
            self.assertIsNone(wrong_at(shape, right))
            wrong = right + product_of([self.factor(rolls, shape) for _ in range(rolls.randrange(4))])
            self.assertEqual(wrong_at(shape, wrong), self.compare(shape, wrong, right))

    def test_wrong_at_is_the_first_wrong_place(self):
        shapes = [HALF, PAIRS, SMALL, shape_of(("j", "0", "n"), ("i", "j", "n")),
                  shape_of(("i", "0", "m"), ("j", "0", "n"))]
        for shape in shapes:
            one, two = [letter(name) for name in shape.names()]
            for formula in [one, two, one + two, one * one + two, one * 2 + two, one * two, one.over(2), number(0)]:
                found = wrong_at(shape, formula)
                self.assertEqual(found, self.first_wrong(shape, formula))

    def first_wrong(self, shape, formula):
        for values in sizes_up_to(shape.sizes(), 6):
            for at, cell in enumerate(stepped(shape.loops(), values)):
                if value_of(formula, {**values, **dict(zip(shape.names(), cell))}) != at:
                    return (values, cell)
        return None


class Far(unittest.TestCase):

    def test_long_loops(self):
        far = "9" * 200
        shape = shape_of(("i", "-" + far + "*n", far), ("j", "i", "i + " + far + "*n"))
        start = -int(far)
        self.assertEqual(differ(shape, read("i"), read("j")), ({"n": 1}, [start, start + 1]))
        self.assertEqual(differ(shape, read(f"i + {far}*n"), number(0)), ({"n": 1}, [start + 1, start + 1]))
        self.assertIsNone(wrong_at(shape, place(shape)))
        wrong = place(shape) + read("(n - 1) * (n - 2)")
        self.assertEqual(wrong_at(shape, wrong), ({"n": 3}, [3 * start, 3 * start]))

    def test_three_loops_three_sizes_and_degree_4(self):
        shape = shape_of(("i", "-3*l - m", "2*l + n + 5"), ("j", "i - 9*l - 9*m - 9*n", "i + 9*l + 7*m + 5*n + 9"),
                         ("k", "i + j - 99*l - 99*m - 99*n", "i + j + 99*l + 5*m"))
        total = read("l + m + n")
        gap = product_of([total - at for at in range(3, 7)])
        self.assertEqual(differ(shape, gap, number(0)), ({"l": 1, "m": 1, "n": 5}, [-4, -67, -764]))
        self.assertEqual(differ(shape, gap.over(10 ** 199) + letter("k"), letter("k"))[0], {"l": 1, "m": 1, "n": 5})
        steps = read("k - i - j + 99*l + 99*m + 99*n")
        gap = product_of([steps - at for at in range(4)])
        self.assertEqual(differ(shape, gap, number(0)), ({"l": 1, "m": 1, "n": 1}, [-4, -31, -328]))
        self.assertIsNone(wrong_at(shape, place(shape)))

    def test_beyond_the_limits(self):
        factors = [letter("i") - at for at in range(12)]
        self.assertEqual(differ(HALF, product_of(factors), number(0)), ({"n": 13}, [12, 0]))
        four = shape_of(("a", "0", "n"), ("b", "0", "a + 1"), ("c", "b", "a + 1"), ("d", "0", "a + b + c + 1"))
        self.assertIsNone(wrong_at(four, place(four)))
        self.assertEqual(wrong_at(four, place(four) + product_of([letter("d") - at for at in range(3)])),
                         ({"n": 2}, [1, 1, 1, 3]))
        self.assertEqual(differ(HALF, letter("i") * BIG ** 20, number(0)), ({"n": 2}, [1, 0]))


class Kept(unittest.TestCase):

    def test_by_names(self):
        self.assertEqual(differ(shape=HALF, one=read("i"), other=read("j")), ({"n": 2}, [1, 0]))
        self.assertEqual(wrong_at(shape=HALF, formula=read("i + j")), ({"n": 3}, [2, 0]))

    def test_size_letters_in_formulas(self):
        self.assertEqual(differ(HALF, read("n"), read("i + 1")), ({"n": 2}, [0, 0]))
        self.assertEqual(differ(HALF, read("n*i*j"), read("n*i*j + j - n/2 + 1/2")), ({"n": 2}, [0, 0]))

    def test_results_are_new(self):
        found = wrong_at(HALF, read("i + j"))
        found[0].clear()
        found[1].append(1)
        self.assertEqual(wrong_at(HALF, read("i + j")), ({"n": 3}, [2, 0]))
        found = differ(SMALL, read("j * j"), read("j + i"))
        found[0]["n"] = 1
        self.assertEqual(differ(SMALL, read("j * j"), read("j + i")), ({}, [1, 0]))


if __name__ == "__main__":
    unittest.main()
