"""[60], [61]: tables that are turned in place."""

import random
import unittest

from cellplaces.errors import InvalidNumber
from cellplaces.rings import ring_length, rings, turned
from samples import any_objects, is_whole
from wrong import Check

MOST = 30000


def where(rows, columns, place):
    """Where a place goes in one turn, by its row and column."""
    row, column = divmod(place, columns)
    return column * rows + row


def ring_of(rows, columns, place):
    """The places of a ring, by stepping through it."""
    found = [place]
    while where(rows, columns, found[-1]) != place:
        found.append(where(rows, columns, found[-1]))
    return found


class Examples(unittest.TestCase):

    def test_examples_of_the_document(self):
        self.assertEqual([turned(2, 3, 1), turned(2, 3, 1, 3), turned(2, 3, 1, 10 ** 20)], [2, 3, 1])
        self.assertEqual(ring_length(2, 3, 1), 4)
        self.assertEqual(rings(2, 3), [(1, 2), (4, 1)])
        self.assertEqual(rings(3, 3), [(1, 3), (2, 3)])
        self.assertEqual(rings(1, 4), [(1, 4)])
        self.assertEqual(rings(1, 1), [(1, 1)])


class Small(unittest.TestCase):

    def test_turned(self):
        for rows in range(1, 9):
            for columns in range(1, 9):
                for place in range(rows * columns):
                    ring = ring_of(rows, columns, place)
                    self.assertEqual(turned(rows, columns, place), where(rows, columns, place))
                    self.assertEqual(turned(rows, columns, place), ring[1 % len(ring)])
                    for times in [0, 1, 2, 3, 7, 60, 10 ** 30 - 1]:
                        self.assertEqual(turned(rows, columns, place, times), ring[times % len(ring)])

    def test_ring_length(self):
        for rows in range(1, 14):
            for columns in range(1, 14):
                for place in range(rows * columns):
                    self.assertEqual(ring_length(rows, columns, place), len(ring_of(rows, columns, place)))

    def test_rings(self):
        for rows in range(1, 30):
            for columns in range(1, 30):
                self.assertEqual(rings(rows, columns), self.counted(rows, columns))

    def counted(self, rows, columns):
        counts = {}
        seen = set()
        for place in range(rows * columns):
            if place not in seen:
                ring = ring_of(rows, columns, place)
                seen.update(ring)
                counts[len(ring)] = counts.get(len(ring), 0) + 1
        return sorted(counts.items())

    def test_one_row_or_column(self):
        for many in [1, 2, 3, 10, 97, MOST]:
            for rows, columns in [(1, many), (many, 1)]:
                self.assertEqual(rings(rows, columns), [(1, many)])
                for place in {0, many // 2, many - 1}:
                    self.assertEqual(ring_length(rows, columns, place), 1)
                    self.assertEqual(turned(rows, columns, place, 10 ** 30), place)

    def test_first_and_last_place_stay(self):
        for rows, columns in [(2, 2), (7, 5), (MOST, MOST - 1), (MOST, MOST)]:
            for place in [0, rows * columns - 1]:
                self.assertEqual(turned(rows, columns, place), place)
                self.assertEqual(turned(rows, columns, place, 10 ** 29 + 7), place)
                self.assertEqual(ring_length(rows, columns, place), 1)

    def test_kinds(self):
        found = rings(5, 7)
        self.assertIs(found.__class__, list)
        self.assertTrue(all(part.__class__ is tuple for part in found))
        self.assertTrue(all(worth.__class__ is int for part in found for worth in part))
        found.append(None)
        self.assertNotEqual(rings(5, 7), found)

    def test_by_names(self):
        self.assertEqual(turned(rows=2, columns=3, place=1, times=3), 3)
        self.assertEqual(turned(2, 3, place=1), 2)
        self.assertEqual(ring_length(rows=2, columns=3, place=1), 4)
        self.assertEqual(rings(rows=2, columns=3), [(1, 2), (4, 1)])


class Great(unittest.TestCase):

    def pairs(self):
        rolls = random.Random(60)
        found = [(MOST, MOST), (MOST - 1, MOST), (MOST, 2), (2, MOST), (1, MOST), (25111, 29989), (24577, 2)]
        return found + [(rolls.randrange(1, MOST + 1), rolls.randrange(1, MOST + 1)) for _ in range(25)]

    def test_turned(self):
        rolls = random.Random(61)
        for rows, columns in self.pairs():
            for _ in range(20):
                place = rolls.randrange(rows * columns)
                self.assertEqual(turned(rows, columns, place), where(rows, columns, place))
                one, two = rolls.randrange(10 ** 30), rolls.randrange(10 ** 30)
                there = turned(rows, columns, place, one)
                self.assertEqual(turned(rows, columns, there, two), turned(rows, columns, place, one + two))
                self.assertEqual(turned(columns, rows, there, one), place)

    def test_ring_length(self):
        rolls = random.Random(62)
        for rows, columns in self.pairs():
            for _ in range(4):
                place = rolls.randrange(rows * columns)
                self.least(rows, columns, place, ring_length(rows, columns, place))

    def least(self, rows, columns, place, length):
        """After this number of turns the place is back, and not after a part of it."""
        self.assertEqual(turned(rows, columns, place, length), place)
        for part in [prime for prime in range(2, 2000) if length % prime == 0]:
            self.assertTrue(turned(rows, columns, place, length // part) != place)
        if length < 3000:
            self.assertEqual(length, len(ring_of(rows, columns, place)))

    def test_rings(self):
        for rows, columns in self.pairs():
            found = rings(rows, columns)
            self.assertEqual(sum(length * many for length, many in found), rows * columns)
            self.assertEqual(found, sorted(found))
            self.assertEqual(len(found), len({length for length, _ in found}))
            self.assertTrue(all(length >= 1 and many >= 1 for length, many in found))
            for place in [0, 1, rows, rows * columns // 2, rows * columns // 3, rows * columns - 1]:
                if place < rows * columns:
                    self.assertIn(ring_length(rows, columns, place), [length for length, _ in found])

    def test_rings_are_those_of_the_places(self):
        for rows, columns in [(211, 199), (128, 511), (64, 1023), (300, 300)]:
            seen = bytearray(rows * columns)
            stepped = {}
            for place in range(rows * columns):
                if not seen[place]:
                    ring = ring_of(rows, columns, place)
                    for other in ring:
                        seen[other] = 1
                    stepped[len(ring)] = stepped.get(len(ring), 0) + 1
                    self.assertEqual(ring_length(rows, columns, place), len(ring))
            self.assertEqual(rings(rows, columns), sorted(stepped.items()))

    def test_beyond_the_limits(self):
        big = 10 ** 30
        self.assertEqual(turned(big, big - 1, big, 1), where(big, big - 1, big))
        self.assertEqual(turned(big, big, 5 * big + 7, 2), 5 * big + 7)
        self.assertEqual(turned(2, 3, 1, 10 ** 400), 1)
        self.assertEqual(turned(1, big ** 7, big, 3), big)
        self.assertEqual(ring_length(10 ** 5, 10 ** 5, 1), 2)
        self.assertEqual(rings(10 ** 5, 10 ** 5), [(1, 10 ** 5), (2, (10 ** 10 - 10 ** 5) // 2)])
        self.assertEqual(ring_length(big, big, big * big - 1), 1)


class Wrong(Check):

    def test_rows_and_columns(self):
        for wrong in any_objects() + [-2, "2", [2], (2,)]:
            if not is_whole(wrong) or wrong < 1:
                for work in [lambda rows: turned(rows, 3, 1), lambda rows: ring_length(rows, 3, 1),
                             lambda rows: rings(rows, 3), lambda rows: turned(rows, None, None, None),
                             lambda rows: ring_length(rows, -1, -1), lambda rows: rings(rows, 0),
                             lambda columns: turned(2, columns, 1), lambda columns: ring_length(2, columns, 1),
                             lambda columns: rings(2, columns), lambda columns: turned(2, columns, None, None),
                             lambda columns: ring_length(2, columns, True)]:
                    self.check(InvalidNumber, wrong, work)

    def test_place(self):
        for wrong in any_objects() + [6, 7, -1, 10 ** 200, "1", [1]]:
            if not is_whole(wrong) or not 0 <= wrong < 6:
                self.check(InvalidNumber, wrong, lambda place: turned(2, 3, place))
                self.check(InvalidNumber, wrong, lambda place: turned(2, 3, place, None))
                self.check(InvalidNumber, wrong, lambda place: ring_length(2, 3, place))
        self.check(InvalidNumber, 1, lambda place: turned(1, 1, place))
        self.check(InvalidNumber, MOST * MOST, lambda place: ring_length(MOST, MOST, place))

    def test_times(self):
        for wrong in any_objects() + [-10 ** 30, "1", [1]]:
            if not is_whole(wrong) or wrong < 0:
                self.check(InvalidNumber, wrong, lambda times: turned(2, 3, 1, times))
                self.check(InvalidNumber, wrong, lambda times: turned(2, 3, 5, times))
                self.check(InvalidNumber, wrong, lambda times: turned(1, 1, 0, times=times))


if __name__ == "__main__":
    unittest.main()
