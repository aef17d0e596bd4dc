"""[50], [51], [52], [53]: plain tables."""

import random
import unittest

from cellplaces.errors import CellError, SharedPlaces
from cellplaces.forms import letter
from cellplaces.plain import Plain, cell_of, clash, hole, own_order
from cellplaces.texts import read
from plains import cells_of, divides, few_cells, is_cell, names_of, number_of, place_of, places_of, plain_of
from plains import random_plain, worth_of
from samples import any_objects

TILES = plain_of(("r", "m", "t n t"), ("c", "n", "t t"), ("a", "t", "t"), ("b", "t", ""))
ROWS = plain_of(("r", "m", "n"), ("c", "n", ""))
WIDE = plain_of(("r", "m", "n p"), ("c", "n", ""))
MIXED = plain_of(("r", "m", "n"), ("c", "p", ""))
EIGHT = plain_of(*[("z" + name, name + " v", ("v " + " ".join("abcdefgh"[:at]) + " v" * at)) for at, name
                   in enumerate("abcdefgh")])
BIG = 10 ** 30 - 1


class Told(unittest.TestCase):
    """What `clash` and `hole` tell is worked out here."""

    def told_values(self, table, values):
        self.assertIs(values.__class__, dict)
        self.assertEqual(sorted(values), table.sizes())
        self.assertTrue(all(worth.__class__ is int and worth >= 1 for worth in values.values()))

    def told_clash(self, table, found):
        self.assertIs(found.__class__, tuple)
        values, one, other = found
        self.told_values(table, values)
        self.assertTrue(is_cell(table, values, one))
        self.assertTrue(is_cell(table, values, other))
        self.assertNotEqual(one, other)
        self.assertEqual(place_of(table, values, one), place_of(table, values, other))

    def told_hole(self, table, found):
        self.assertIs(found.__class__, tuple)
        values, gap = found
        self.told_values(table, values)
        self.assertIs(gap.__class__, int)
        self.assertTrue(0 <= gap < number_of(table, values))
        if number_of(table, values) <= 5000:
            self.assertNotIn(gap, places_of(table, values))
        else:
            # Of all sides only those that do not step over the gap can lead to it; the first one leads to 0 alone.
            low = Plain([("none", [], []), *[side for side in table.sides() if worth_of(side[2], values) <= gap]])
            self.assertLess(number_of(low, values), 5000)
            self.assertNotIn(gap, places_of(low, values))


class Examples(Told):

    def test_examples_of_the_document(self):
        tiles = Plain([("r", ["m"], ["t", "n", "t"]), ("c", ["n"], ["t", "t"]), ("a", ["t"], ["t"]), ("b", ["t"], [])])
        self.assertEqual(own_order(tiles), ["b", "a", "c", "r"])
        self.assertIsNone(clash(tiles))
        self.assertIsNone(hole(tiles))
        self.assertEqual(cell_of(tiles, {"m": 5, "n": 10 ** 9, "t": 8}, 10 ** 10 + 77), [0, 156250001, 1, 5])
        self.told_hole(WIDE, hole(WIDE))
        self.told_clash(MIXED, clash(MIXED))

    def test_what_the_document_gives_is_true(self):
        self.told_hole(WIDE, ({"m": 2, "n": 2, "p": 2}, 2))
        self.told_clash(MIXED, ({"m": 2, "n": 2, "p": 3}, [0, 2], [1, 0]))


class Asked(unittest.TestCase):

    def test_sides(self):
        self.assertEqual(TILES.sides(), [("r", ["m"], ["n", "t", "t"]), ("c", ["n"], ["t", "t"]), ("a", ["t"], ["t"]),
                                         ("b", ["t"], [])])
        table = plain_of(("zz", "b aa a b", "n c"), ("i", "", ""))
        self.assertEqual(table.sides(), [("zz", ["a", "aa", "b", "b"], ["c", "n"]), ("i", [], [])])
        self.assertTrue(all(side.__class__ is tuple for side in table.sides()))

    def test_sizes(self):
        self.assertEqual(TILES.sizes(), ["m", "n", "t"])
        self.assertEqual(plain_of(("i", "", "")).sizes(), [])
        self.assertEqual(plain_of(("i", "", "zz b"), ("j", "a b", "")).sizes(), ["a", "b", "zz"])

    def test_len(self):
        self.assertEqual([len(TILES), len(ROWS), len(plain_of(("i", "", ""))), len(EIGHT)], [4, 2, 1, 8])

    def test_formula(self):
        self.assertTrue(ROWS.formula() == read("r * n + c"))
        self.assertTrue(TILES.formula() == read("r * t * n * t + c * t * t + a * t + b"))
        self.assertTrue(plain_of(("i", "", "n n"), ("j", "m", "m")).formula() == read("i * n * n + j * m"))
        self.assertTrue(plain_of(("i", "n", "")).formula() == letter("i"))
        self.assertEqual(plain_of(("a", "n", "b"), ("c", "m", "b")).formula().letters(), ["a", "b", "c"])

    def test_formula_at_random(self):
        rolls = random.Random(50)
        for _ in range(200):
            table = random_plain(rolls, rolls.randrange(1, 6), ["n", "m", "k"])
            values = {name: rolls.randrange(1, 9) for name in table.sizes()}
            cell = [rolls.randrange(-3, 9) for _ in table.sides()]
            self.assertEqual(table.formula().at({**values, **dict(zip(names_of(table), cell))}),
                             place_of(table, values, cell))

    def test_by_names(self):
        self.assertTrue(Plain(sides=[("r", ["m"], ["n"]), ("c", ["n"], [])]) == ROWS)

    def test_equal(self):
        self.assertTrue(TILES == plain_of(("r", "m", "n t t"), ("c", "n", "t t"), ("a", "t", "t"), ("b", "t", "")))
        self.assertFalse(TILES != plain_of(("r", "m", "t t n"), ("c", "n", "t t"), ("a", "t", "t"), ("b", "t", "")))
        others = [plain_of(("c", "n", ""), ("r", "m", "n")), plain_of(("r", "m", "n")),
                  plain_of(("q", "m", "n"), ("c", "n", "")), plain_of(("r", "m", "n n"), ("c", "n", "")),
                  plain_of(("r", "m m", "n"), ("c", "n", "")), plain_of(("r", "n", "m"), ("c", "m", "")),
                  plain_of(("r", "m", "n"), ("c", "n", ""), ("i", "", ""))]
        for other in others:
            self.assertTrue(ROWS != other)
            self.assertFalse(ROWS == other)

    def test_not_equal_to_other_objects(self):
        table = plain_of(("i", "m", ""))
        for other in any_objects() + [table.sides(), table.formula(), names_of(table)]:
            self.assertFalse(table == other)
            self.assertTrue(table != other)

    def test_lists_that_were_passed(self):
        sides = [("r", ["m"], ["n"]), ("c", ["n"], [])]
        table = Plain(sides)
        sides[0][1].append("x")
        sides[0][2].clear()
        sides[1][2].append("y")
        sides.append(("k", [], []))
        self.assertTrue(table == ROWS)
        self.assertEqual((len(table), table.sizes(), names_of(table)), (2, ["m", "n"], ["r", "c"]))

    def test_lists_that_were_returned(self):
        table = Plain(ROWS.sides())
        table.sizes().clear()
        found = table.sides()
        found[0][1].append("x")
        found[1][2].append("x")
        found.pop()
        own_order(table).clear()
        self.assertTrue(table == ROWS)
        self.assertEqual((len(table), table.sizes(), own_order(table)), (2, ["m", "n"], ["c", "r"]))

    def test_the_same_product_twice(self):
        letters = ["n"]
        table = Plain([("i", letters, letters), ("j", letters, letters)])
        found = table.sides()
        found[0][1].append("m")
        self.assertEqual(table.sides(), [("i", ["n"], ["n"]), ("j", ["n"], ["n"])])


class Own(Told):

    def test_orders(self):
        self.assertEqual(own_order(ROWS), ["c", "r"])
        self.assertEqual(own_order(WIDE), ["c", "r"])
        self.assertEqual(own_order(plain_of(("i", "n", "m m"))), ["i"])
        self.assertEqual(own_order(plain_of(("i", "", "m m"))), [])
        self.assertEqual(own_order(plain_of(("i", "", ""), ("j", "", ""))), [])
        self.assertEqual(own_order(plain_of(("i", "", "q"), ("j", "n", ""), ("k", "", ""))), ["j"])
        self.assertEqual(own_order(EIGHT), ["z" + name for name in "abcdefgh"])
        self.assertEqual(own_order(table=ROWS), ["c", "r"])

    def test_shared(self):
        tables = [MIXED, plain_of(("i", "n", ""), ("j", "n", "")), plain_of(("i", "n", "m"), ("j", "m", "n")),
                  plain_of(("i", "n", "n"), ("j", "m", "m")), plain_of(("i", "n n", ""), ("j", "m", "n")),
                  plain_of(("i", "n m", ""), ("j", "m", "n n k k k")), plain_of(("i", "n", "m m"), ("j", "m", "n")),
                  plain_of(("i", "n", "a b"), ("j", "m", "c d e f g h")),
                  plain_of(("i", "n", "n n n"), ("j", "m", "m")),
                  plain_of(("i", "n", ""), ("j", "", ""), ("k", "m", "")),
                  plain_of(("i", "a a a", ""), ("j", "b", "a a b b b b")),
                  plain_of(("i", "n", ""), ("j", "n", "m"), ("k", "n", "n m"))]
        for table in tables:
            with self.subTest(table.sides()):
                self.assertIsNone(own_order(table))
                self.told_clash(table, clash(table))

    def test_at_random(self):
        rolls = random.Random(51)
        own = 0
        for _ in range(600):
            table = random_plain(rolls, rolls.choice([1, 2, 3, 3, 4]), rolls.choice(["n", "nm", "nmk"]))
            order = own_order(table)
            if order is None:
                self.told_clash(table, clash(table))
            else:
                own += 1
                self.assertIsNone(clash(table))
                self.fits(table, order)
                for values in few_cells(table, 3, 200):
                    places = places_of(table, values)
                    self.assertEqual(len(places), len(set(places)))
        self.assertTrue(100 < own < 500, own)

    def fits(self, table, order):
        """The order has all sides whose size is not 1, and each one's step times its size divides the next step."""
        sides = {name: (size, step) for name, size, step in table.sides()}
        self.assertEqual(sorted(order), sorted(name for name in sides if sides[name][0]))
        for inner, outer in zip(order, order[1:]):
            self.assertTrue(divides(sides[inner][0] + sides[inner][1], sides[outer][1]))

    def test_wide_products_at_random(self):
        rolls = random.Random(52)
        for _ in range(500):
            rows = []
            for name in rolls.sample(["r", "c", "a", "b", "x", "y", "z", "w"], rolls.randrange(2, 9)):
                rows.append((name, [rolls.choice("ntm") for _ in range(rolls.randrange(7))],
                             [rolls.choice("ntm") for _ in range(rolls.randrange(7))]))
            table = Plain(rows)
            if own_order(table) is None:
                self.told_clash(table, clash(table))
            else:
                self.fits(table, own_order(table))

    def test_beyond_the_limits(self):
        names = [one + other for one in "abcdefgh" for other in "abcdefghijklmnopqrstuvwxyz"]
        many = plain_of(*[(name, "n", "n " * at) for at, name in enumerate(names)])
        self.assertEqual(own_order(many), names)
        self.assertIsNone(hole(many))
        for table in [plain_of(("i", "n", "m " * 500), ("j", "n", "k " * 700)),
                      plain_of(("i", "p", ""), ("j", "n", "k " * 700))]:
            self.told_clash(table, clash(table))


class Holes(Told):

    def test_full(self):
        for table in [ROWS, TILES, plain_of(("i", "", "n n")), plain_of(("i", "n n", "")),
                      plain_of(("i", "", "m"), ("j", "n", "")),
                      plain_of(("a", "m", "t n"), ("b", "n", "t"), ("c", "t", ""))]:
            self.assertIsNone(hole(table))
            self.assertIsNone(hole(table=table))
            for values in few_cells(table, 3, 300):
                self.assertEqual(places_of(table, values), list(range(number_of(table, values))))

    def test_holes(self):
        for table in [WIDE, EIGHT, plain_of(("i", "n", "n")), plain_of(("i", "n", "m")),
                      plain_of(("i", "n", "m"), ("j", "", "")), plain_of(("r", "m", "n n"), ("c", "n", "")),
                      plain_of(("r", "m", "n k"), ("c", "n", "k")),
                      plain_of(("a", "m", "t n n"), ("b", "n", "t"), ("c", "t", ""))]:
            self.told_hole(table, hole(table))

    def test_shared_places(self):
        for table in [MIXED, plain_of(("i", "n", ""), ("j", "n", "")), plain_of(("i", "n", "m"), ("j", "m", "n"))]:
            with self.assertRaises(SharedPlaces) as caught:
                hole(table)
            self.assertIs(caught.exception.__class__, SharedPlaces)

    def test_at_random(self):
        rolls = random.Random(53)
        counts = {"full": 0, "hole": 0, "shared": 0}
        for _ in range(600):
            table = random_plain(rolls, rolls.choice([1, 2, 3, 3, 4]), rolls.choice(["n", "nm", "nmk"]))
            if own_order(table) is None:
                counts["shared"] += 1
                self.assertRaises(SharedPlaces, hole, table)
                continue
            found = hole(table)
            counts["hole" if found else "full"] += 1
            if found is not None:
                self.told_hole(table, found)
            else:
                for values in few_cells(table, 3, 200):
                    self.assertEqual(places_of(table, values), list(range(number_of(table, values))))
        self.assertTrue(all(many > 50 for many in counts.values()), counts)


class Cells(unittest.TestCase):

    def test_all_places(self):
        tables = [ROWS, TILES, WIDE, plain_of(("i", "n", "m m"), ("j", "", "n")),
                  plain_of(("i", "", "n"), ("j", "", ""))]
        rolls = random.Random(54)
        while len(tables) < 60:
            table = random_plain(rolls, rolls.randrange(1, 5), ["n", "m"])
            if own_order(table) is not None:
                tables.append(table)
        for table in tables:
            for values in few_cells(table, 3, 60):
                known = {place_of(table, values, cell): cell for cell in cells_of(table, values)}
                for place in range(min(max(known) + 3, 400)):
                    self.assertEqual(cell_of(table, values, place), known.get(place))

    def test_beside_the_last_place(self):
        self.assertEqual(cell_of(ROWS, {"m": 3, "n": 4}, 11), [2, 3])
        self.assertIsNone(cell_of(ROWS, {"m": 3, "n": 4}, 12))
        self.assertIsNone(cell_of(ROWS, {"m": 3, "n": 4}, 10 ** 200))
        self.assertEqual(cell_of(plain_of(("i", "", "n")), {"n": 7}, 0), [0])
        self.assertIsNone(cell_of(plain_of(("i", "", "n")), {"n": 7}, 7))
        self.assertIsNone(cell_of(WIDE, {"m": 3, "n": 4, "p": 2}, 5))
        self.assertEqual(cell_of(WIDE, {"m": 3, "n": 4, "p": 2}, 8), [1, 0])

    def test_long_numbers(self):
        self.assertEqual(cell_of(ROWS, {"m": BIG, "n": BIG - 1}, BIG * (BIG - 1) - 1), [BIG - 1, BIG - 2])
        self.assertIsNone(cell_of(ROWS, {"m": BIG, "n": BIG - 1}, BIG * (BIG - 1)))
        rolls = random.Random(55)
        for table in [TILES, WIDE, EIGHT]:
            for _ in range(20):
                values = {name: rolls.randrange(1, BIG) for name in table.sizes()}
                cell = [rolls.randrange(worth_of(size, values)) for _, size, _ in table.sides()]
                place = place_of(table, values, cell)
                self.assertEqual(cell_of(table, values, place), cell)
        values = {name: BIG for name in EIGHT.sizes()}
        self.assertIsNone(cell_of(EIGHT, values, BIG ** 5 + 1))
        self.assertIsNone(cell_of(WIDE, values | {"m": 2, "n": BIG, "p": BIG}, BIG ** 2 - 1))

    def test_places_of_200_digits(self):
        table = plain_of(("a", "n n", "n n n n n"), ("b", "n n n", "n n"), ("c", "n n", ""))
        values = {"n": BIG}
        top = BIG ** 7 - 1
        self.assertEqual(len(str(top)), 210)
        self.assertEqual(cell_of(table, values, top), [BIG ** 2 - 1, BIG ** 3 - 1, BIG ** 2 - 1])
        self.assertIsNone(cell_of(table, values, top + 1))
        cell = [10 ** 199 // BIG ** 5, 10 ** 199 % BIG ** 5 // BIG ** 2, 10 ** 199 % BIG ** 2]
        self.assertEqual(cell_of(table, values, 10 ** 199), cell)

    def test_other_letters_in_values(self):
        for values in [{"m": 3, "n": 4}, {"m": 3, "n": 4, "r": -1, "c": 0, "zz": 9}, {"n": 4, "k": -10 ** 30, "m": 3}]:
            before = dict(values)
            self.assertEqual(cell_of(ROWS, values, 7), [1, 3])
            self.assertEqual(values, before)

    def test_by_names(self):
        self.assertEqual(cell_of(table=ROWS, values={"m": 3, "n": 4}, place=7), [1, 3])

    def test_shared_places_last(self):
        for values, place in [({"m": 1, "n": 1, "p": 1}, 0), ({"m": 2, "n": 2, "p": 2}, 99)]:
            with self.assertRaises(CellError) as caught:
                cell_of(MIXED, values, place)
            self.assertIs(caught.exception.__class__, SharedPlaces)

    def test_results_are_new(self):
        first = cell_of(ROWS, {"m": 3, "n": 4}, 7)
        first.append(1)
        self.assertEqual(cell_of(ROWS, {"m": 3, "n": 4}, 7), [1, 3])


if __name__ == "__main__":
    unittest.main()
