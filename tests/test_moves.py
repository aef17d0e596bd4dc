"""[55], [56], [57], [58]: walks of plain tables."""

import random
import unittest
from itertools import permutations

from cellplaces.forms import letter, number
from cellplaces.moves import arranged, joined, jumps, kept, same_run, smooth
from cellplaces.plain import Plain, hole, own_order
from cellplaces.texts import read
from plains import cells_of, few_cells, lengths_of, names_of, number_of, place_of, places_of, plain_of
from plains import random_plain, run_of, walked_by

TILES = plain_of(("r", "m", "t n t"), ("c", "n", "t t"), ("a", "t", "t"), ("b", "t", ""))
ROWS = plain_of(("r", "m", "n"), ("c", "n", ""))
WIDE = plain_of(("r", "m", "n p"), ("c", "n", ""))
SHARED = plain_of(("r", "m", "n"), ("c", "p", ""))
SINGLE = plain_of(("i", "", "n n"), ("r", "m", "n"), ("j", "", ""), ("c", "n", ""))
BIG = 10 ** 30 - 1


def some_tables(seed, count, most=4):
    rolls = random.Random(seed)
    pools = ["n", "nm", "nm", "nmk"]
    return [random_plain(rolls, rolls.randrange(1, most + 1), rolls.choice(pools)) for _ in range(count)]


def shuffled(rolls, names):
    return rolls.sample(names, len(names))


class Examples(unittest.TestCase):

    def test_jumps_and_smooth(self):
        rows = Plain([("r", ["m"], ["n"]), ("c", ["n"], [])])
        found = jumps(rows, ["c", "r"])
        self.assertEqual([name for name, _, _ in found], ["r", "c"])
        self.assertTrue(found[0][1] == read("n") and found[1][1] == read("1 - (m - 1) * n"))
        self.assertTrue(found[0][2] == read("(m - 1) * n"))
        self.assertEqual(smooth(rows), ["r", "c"])

    def test_kept_and_arranged(self):
        self.assertTrue(kept(ROWS, "n") == read("n"))
        self.assertTrue(kept(ROWS, "m") == read("m * n"))
        found = arranged([("r", ["m"]), ("c", ["n"])], "n")
        self.assertIs(found.__class__, Plain)
        self.assertEqual(found.sides(), [("r", ["m"], []), ("c", ["n"], ["m"])])
        self.assertIsNone(arranged([("r", ["n"]), ("c", ["n"])], "n"))

    def test_joined_and_same_run(self):
        self.assertEqual(joined(TILES, ["r", "c", "a", "b"]), [(["m", "n", "t", "t"], [])])
        self.assertIsNone(same_run(TILES, ["r", "c", "a", "b"], Plain([("x", ["m", "n", "t", "t"], [])]), ["x"]))
        values, steps = same_run(ROWS, ["r", "c"], ROWS, ["c", "r"])
        self.assertEqual(sorted(values), ["m", "n"])
        self.assertNotEqual(run_of(ROWS, ["r", "c"], values)[steps], run_of(ROWS, ["c", "r"], values)[steps])


class Jumps(unittest.TestCase):

    def stepped(self, table, walk, values):
        """For each name what the place grows by at the steps where its index grows, and how many there are."""
        found = {name: [] for name in walk}
        cells = walked_by(table, walk, values)
        run = run_of(table, walk, values)
        for at in range(len(cells) - 1):
            outermost = next(name for name in walk if cells[at][name] != cells[at + 1][name])
            found[outermost].append(run[at + 1] - run[at])
        return found

    def compare(self, table, walk):
        found = jumps(table, walk)
        self.assertEqual([name for name, _, _ in found], walk[::-1])
        self.assertTrue(all(part.__class__ is tuple for part in found))
        for _, width, steps in found:
            self.assertTrue(set(width.letters() + steps.letters()) <= set(table.sizes()))
        for values in few_cells(table, 3, 100):
            seen = self.stepped(table, walk, values)
            for name, width, steps in found:
                self.assertEqual(steps.at(values), len(seen[name]))
                self.assertTrue(all(grown == width.at(values) for grown in seen[name]))

    def test_at_random(self):
        rolls = random.Random(55)
        for table in some_tables(55, 150) + [ROWS, TILES, WIDE, SHARED, SINGLE]:
            self.compare(table, shuffled(rolls, names_of(table)))

    def test_width_where_there_is_no_step(self):
        found = jumps(SINGLE, ["r", "i", "c", "j"])
        self.assertEqual([name for name, _, _ in found], ["j", "c", "i", "r"])
        widths = [read("1"), read("1"), read("n * n - (n - 1)"), read("n - (n - 1)")]
        self.assertTrue([width for _, width, _ in found] == widths)
        self.assertTrue([steps for _, _, steps in found] == [number(0), read("(n - 1) * m"), number(0), read("m - 1")])

    def test_one_side(self):
        self.assertTrue(jumps(plain_of(("i", "n n", "m")), ["i"]) == [("i", letter("m"), read("n * n - 1"))])
        self.assertTrue(jumps(plain_of(("i", "", "m")), ["i"]) == [("i", letter("m"), number(0))])

    def test_by_names(self):
        self.assertTrue(jumps(table=ROWS, walk=["r", "c"]) == jumps(ROWS, ["r", "c"]))

    def test_eight_sides_and_more(self):
        for many in [8, 20]:
            names = ["x" + name for name in "abcdefghijklmnopqrstuvwxyz"[:many]]
            sides = [(name, [name[1]] * 2, [name[1]] * 6) for name in names]
            found = jumps(Plain(sides), names)
            self.assertEqual([name for name, _, _ in found], names[::-1])
            values = {name[1]: 10 ** 30 - at for at, name in enumerate(names)}
            total = 1
            for name, _, steps in found:
                total += steps.at(values)
            self.assertEqual(total, number_of(Plain(sides), values))


class Smooth(unittest.TestCase):

    def is_smooth(self, table, walk, values):
        return run_of(table, walk, values) == list(range(number_of(table, values)))

    def test_at_random(self):
        found = {True: 0, False: 0}
        for table in some_tables(56, 400) + [ROWS, TILES, WIDE, SHARED, SINGLE]:
            walk = smooth(table)
            found[walk is None] += 1
            full = own_order(table) is not None and hole(table) is None
            self.assertEqual(walk is not None, full)
            if walk is not None:
                self.assertEqual(sorted(walk), sorted(names_of(table)))
                for values in few_cells(table, 3, 200):
                    self.assertTrue(self.is_smooth(table, walk, values))
            else:
                many = few_cells(table, 3, 200)
                for other in permutations(names_of(table)):
                    self.assertFalse(all(self.is_smooth(table, list(other), values) for values in many))
        self.assertTrue(all(many > 30 for many in found.values()), found)

    def test_edges(self):
        self.assertEqual(smooth(plain_of(("i", "", "n n"))), ["i"])
        self.assertEqual(sorted(smooth(plain_of(("i", "", "n n"), ("j", "", "")))), ["i", "j"])
        self.assertEqual(smooth(plain_of(("i", "n", ""))), ["i"])
        self.assertIsNone(smooth(plain_of(("i", "n", "n"))))
        self.assertIsNone(smooth(SHARED))
        self.assertIsNone(smooth(WIDE))
        self.assertEqual(smooth(table=TILES), ["r", "c", "a", "b"])


class Kept(unittest.TestCase):

    def test_at_random(self):
        for table in some_tables(57, 200) + [ROWS, TILES, WIDE, SHARED, SINGLE]:
            for size in table.sizes():
                found = kept(table, size)
                self.assertTrue(set(found.letters()) <= set(table.sizes()))
                for values in few_cells(table, 3, 100):
                    grown = {**values, size: values[size] + 1}
                    same = [cell for cell in cells_of(table, values)
                            if place_of(table, values, cell) == place_of(table, grown, cell)]
                    self.assertEqual(found.at(values), len(same))

    def test_edges(self):
        self.assertTrue(kept(plain_of(("i", "", "n")), "n") == number(1))
        self.assertTrue(kept(plain_of(("i", "n", "n")), "n") == number(1))
        self.assertTrue(kept(plain_of(("i", "n n", "m")), "n") == read("n * n"))
        self.assertTrue(kept(TILES, "m") == read("m * n * t * t"))
        self.assertTrue(kept(TILES, "n") == read("n * t * t"))
        self.assertTrue(kept(table=TILES, size="t") == letter("t"))


class Arranged(unittest.TestCase):

    def full_tables(self, sides):
        """All full tables with these names and sizes, as far as they have other places."""
        for order in permutations(sides):
            step, steps = [], {}
            for name, size in order:
                steps[name] = step
                step = step + size
            yield Plain([(name, size, steps[name]) for name, size in sides])

    def stays(self, table, size, values):
        grown = {**values, size: values.get(size, 1) + 1}
        return all(place_of(table, values, cell) == place_of(table, grown, cell) for cell in cells_of(table, values))

    def test_at_random(self):
        rolls = random.Random(58)
        counts = {True: 0, False: 0}
        for _ in range(300):
            names = rolls.sample(["r", "c", "a", "b"], rolls.randrange(1, 5))
            sides = [(name, [rolls.choice("nnmk") for _ in range(rolls.randrange(3))]) for name in names]
            size = rolls.choice(["n", "n", "m", "q", "r"])
            found = arranged(sides, size)
            counts[found is None] += 1
            if found is None:
                for table in self.full_tables(sides):
                    self.assertIsNone(hole(table))
                    self.assertFalse(all(self.stays(table, size, values) for values in few_cells(table, 2, 300)))
                continue
            self.assertEqual([(name, length) for name, length, _ in found.sides()],
                             [(name, sorted(length)) for name, length in sides])
            self.assertIsNone(hole(found))
            for values in few_cells(found, 3, 100):
                self.assertEqual(places_of(found, values), list(range(number_of(found, values))))
                self.assertTrue(self.stays(found, size, values))
        self.assertTrue(all(many > 20 for many in counts.values()), counts)

    def test_edges(self):
        self.assertEqual(arranged([("i", [])], "n").sizes(), [])
        self.assertIsNone(arranged([("i", ["n", "m"]), ("j", []), ("k", ["n"])], "n"))
        self.assertEqual(arranged([("i", ["n", "n"]), ("j", ["m"])], "n").sides(),
                         [("i", ["n", "n"], ["m"]), ("j", ["m"], [])])
        self.assertIsNone(hole(arranged([("n", ["m"]), ("i", ["k"])], "n")))
        self.assertIsNone(hole(arranged(sides=[("i", ["k"])], size="abcdefghij")))

    def test_lists_that_were_passed(self):
        sides = [("r", ["m"]), ("c", ["n"])]
        table = arranged(sides, "n")
        sides[0][1].append("x")
        sides.pop()
        self.assertEqual(table.sides(), [("r", ["m"], []), ("c", ["n"], ["m"])])


class Joined(unittest.TestCase):

    def test_at_random(self):
        rolls = random.Random(59)
        shorter = 0
        for table in some_tables(59, 300) + [ROWS, TILES, WIDE, SHARED, SINGLE]:
            walk = shuffled(rolls, names_of(table)) if rolls.randrange(2) else smooth(table) or names_of(table)
            found = joined(table, walk)
            self.assertTrue(all(side.__class__ is tuple and len(side) == 2 for side in found))
            for size, step in found:
                self.assertEqual((size, step), (sorted(size), sorted(step)))
                self.assertNotEqual(size, [])
            for (size, step), (_, stride) in zip(found, found[1:]):
                self.assertNotEqual(sorted(size + step), stride)
            shorter += len(found) < len([size for _, size, _ in table.sides() if size])
            names = ["x" + "abcdefgh"[at] for at in range(len(found))]
            other = Plain([("x", [], []), *[(name, size, step) for name, (size, step) in zip(names, found)]])
            for values in few_cells(table, 3, 100):
                self.assertEqual(run_of(table, walk, values), run_of(other, ["x", *names[::-1]], values))
        self.assertGreater(shorter, 50)

    def test_edges(self):
        self.assertEqual(joined(plain_of(("i", "", "n"), ("j", "", "")), ["j", "i"]), [])
        self.assertEqual(joined(ROWS, ["c", "r"]), [(["m"], ["n"]), (["n"], [])])
        self.assertEqual(joined(SINGLE, ["r", "i", "c", "j"]), [(["m", "n"], [])])
        self.assertEqual(joined(SINGLE, ["c", "i", "r", "j"]), [(["m"], ["n"]), (["n"], [])])
        self.assertEqual(joined(WIDE, ["r", "c"]), [(["n"], []), (["m"], ["n", "p"])])
        self.assertEqual(joined(plain_of(("a", "m", "t n k"), ("b", "n", "t k"), ("c", "q", "t")), ["a", "b", "c"]),
                         [(["q"], ["t"]), (["m", "n"], ["k", "t"])])
        self.assertEqual(joined(table=ROWS, walk=["r", "c"]), [(["m", "n"], [])])
        self.assertEqual(joined(plain_of(("i", "n", "m"), ("j", "n", "n m")), ["i", "j"]),
                         [(["n"], ["m", "n"]), (["n"], ["m"])])


class Runs(unittest.TestCase):

    def told(self, table, walk, other, route, found):
        """The values and the position are of the right kinds, and the runs are unlike there."""
        self.assertIs(found.__class__, tuple)
        values, steps = found
        self.assertEqual(sorted(values), sorted(set(table.sizes() + other.sizes())))
        self.assertTrue(all(worth.__class__ is int and worth >= 1 for worth in values.values()))
        self.assertIs(steps.__class__, int)
        self.assertGreaterEqual(steps, 0)
        self.assertNotEqual(self.place_at(table, walk, values, steps), self.place_at(other, route, values, steps))

    def place_at(self, table, walk, values, steps):
        """The place at a position of the run, or None behind its end."""
        lengths = dict(zip(names_of(table), lengths_of(table, values)))
        cell = {}
        for name in reversed(walk):
            steps, cell[name] = divmod(steps, lengths[name])
        return place_of(table, values, [cell[name] for name in names_of(table)]) if steps == 0 else None

    def compare(self, table, walk, other, route):
        found = same_run(table, walk, other, route)
        if found is not None:
            self.told(table, walk, other, route, found)
            return False
        sizes = sorted(set(table.sizes() + other.sizes()))
        both = plain_of(("x", " ".join(sizes), ""))
        for values in few_cells(both, 3, 99):
            if number_of(table, values) <= 200 and number_of(other, values) <= 200:
                self.assertEqual(run_of(table, walk, values), run_of(other, route, values))
        return True

    def test_two_walks_of_a_table(self):
        same = 0
        for table in some_tables(60, 60, most=3) + [ROWS, TILES, WIDE, SHARED, SINGLE]:
            walks = [list(walk) for walk in permutations(names_of(table))]
            for walk in walks[:6]:
                for route in walks[-6:]:
                    same += self.compare(table, walk, table, route)
        self.assertGreater(same, 50)

    def test_two_tables_at_random(self):
        tables = some_tables(61, 60, most=2)
        same = 0
        for table in tables:
            for other in tables:
                same += self.compare(table, names_of(table), other, names_of(other)[::-1])
        self.assertGreater(same, 50)

    def test_one_longer_than_the_other(self):
        line = plain_of(("i", "n", "m"))
        for other in [plain_of(("i", "n n", "m")), plain_of(("i", "", "")), plain_of(("i", "k", "m")),
                      plain_of(("i", "n", "m"), ("j", "k", "m n k")), plain_of(("i", "n", "m"), ("j", "k", "m n")),
                      plain_of(("i", "n", "m"), ("j", "n", "n")), plain_of(("i", "n", ""))]:
            walk = names_of(other)[::-1]
            self.assertFalse(self.compare(line, ["i"], other, walk))
            self.assertFalse(self.compare(other, walk, line, ["i"]))

    def test_steps_with_equal_values(self):
        # With sizes that are all 2 many of these runs are the same for a long time.
        tables = [plain_of(("i", "n", ""), ("j", "m", size)) for size in ["m", "k", "n n", "n m", "n k", "", "n"]]
        tables += [plain_of(("i", "n k", ""), ("j", "m", size)) for size in ["n n", "k k", "m m", "n k", "n k k"]]
        tables += [plain_of(("i", "n", ""), ("j", "m", "n n"), ("k", size, "m n n")) for size in ["n", "m", "q q"]]
        for table in tables:
            for other in tables:
                same = self.compare(table, names_of(table)[::-1], other, names_of(other)[::-1])
                self.assertEqual(same, table is other)

    def test_other_size_letters(self):
        one = plain_of(("i", "n", ""), ("j", "", "p"))
        self.assertIsNone(same_run(one, ["i", "j"], plain_of(("x", "", "q"), ("y", "n", "")), ["x", "y"]))
        values, _ = same_run(one, ["i", "j"], plain_of(("x", "", "q"), ("y", "k", "")), ["x", "y"])
        self.assertEqual(sorted(values), ["k", "n", "p", "q"])

    def test_by_names(self):
        self.assertIsNone(same_run(table=ROWS, walk=["r", "c"], other=plain_of(("x", "n m", "")), route=["x"]))

    def test_wide_tables(self):
        names = ["x" + name for name in "abcdefgh"]
        sides = [(name, [name[1]] * 6, [name[1]] * 6) for name in names]
        one, other = Plain(sides), Plain(sides[:4] + [(names[4], ["e"] * 6, ["e"] * 5 + ["f"])] + sides[5:])
        self.told(one, names, other, names, same_run(one, names, other, names))
        last = Plain([("xa", ["a"] * 6, ["a"] * 6 + ["b"]), *sides[1:]])
        self.told(one, names, last, names, same_run(one, names, last, names))
        self.told(one, names, one, names[::-1], same_run(one, names, one, names[::-1]))
        self.assertIsNone(same_run(one, names, Plain(sides[::-1]), names))

    def test_beyond_the_limits(self):
        names = [one + other for one in "abcde" for other in "abcdefghij"]
        sides = [(name, ["z" + name, "y" + name], ["x" + name] * 9) for name in names]
        one, other = Plain(sides), Plain([*sides[:-1], (names[-1], ["a"], ["b"])])
        self.told(one, names, other, names, same_run(one, names, other, names))
        self.told(one, names[::-1], other, names[::-1], same_run(one, names[::-1], other, names[::-1]))

    def test_results_are_new(self):
        first = same_run(ROWS, ["r", "c"], ROWS, ["c", "r"])
        again = same_run(ROWS, ["r", "c"], ROWS, ["c", "r"])
        self.assertEqual(first, again)
        again[0].clear()
        self.assertEqual(same_run(ROWS, ["r", "c"], ROWS, ["c", "r"]), first)
        found = joined(TILES, ["r", "c", "a", "b"])
        found[0][0].append("x")
        found[0][1].append("x")
        self.assertEqual(joined(TILES, ["r", "c", "a", "b"]), [(["m", "n", "t", "t"], [])])


if __name__ == "__main__":
    unittest.main()
