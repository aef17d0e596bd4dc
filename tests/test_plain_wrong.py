"""[50], [55], [57], [58]: sides and walks that are wrong."""

import unittest

from cellplaces.errors import InvalidLetter, InvalidSides, InvalidWalk
from cellplaces.moves import arranged, joined, jumps, kept, same_run
from cellplaces.plain import Plain
from plains import plain_of, sides_of
from samples import any_objects, is_letter
from wrong import Check

ROWS = plain_of(("r", "m", "n"), ("c", "n", ""))


def is_product(value):
    return value.__class__ is list and all(is_letter(name) for name in value)


def without_steps(sides):
    return [side[:2] for side in sides]


class Sides(Check):

    def wrong(self, sides):
        self.check(InvalidSides, sides, Plain)

    def wrong_sizes(self, sides):
        self.check(InvalidSides, sides, lambda wrong: arranged(wrong, "n"))
        self.check(InvalidSides, sides, lambda wrong: arranged(wrong, None))

    def test_other_objects(self):
        for wrong in any_objects() + [ROWS, ROWS.formula(), tuple(ROWS.sides()), {"r": (["m"], ["n"])},
                                      ROWS.sides()[0]]:
            self.wrong(wrong)
            self.wrong_sizes(wrong)
        self.wrong_sizes(tuple(without_steps(ROWS.sides())))

    def test_other_objects_for_sides(self):
        for wrong in any_objects() + [("i", ["n"], [], []), (), ("i",)]:
            if wrong.__class__ is not tuple or len(wrong) != 3 or not is_letter(wrong[0]):
                self.wrong([wrong])
                self.wrong([*ROWS.sides(), wrong])
                self.wrong([wrong, *ROWS.sides()])
            self.wrong_sizes([wrong])
            self.wrong_sizes([*without_steps(ROWS.sides()), wrong])

    def test_sides_of_the_other_kind(self):
        self.wrong(without_steps(ROWS.sides()))
        self.wrong_sizes(ROWS.sides())
        self.wrong([ROWS.sides()[0], ROWS.sides()[1][:2]])
        self.wrong_sizes([ROWS.sides()[0][:2], ROWS.sides()[1]])

    def test_other_objects_in_sides(self):
        for wrong in any_objects() + [("n",), "n", ["n", ""], ["n", "m", 1], [["n"]], [ROWS], ["N"], ["abcdefghijk"]]:
            if not is_letter(wrong):
                self.wrong([(wrong, ["n"], [])])
                self.wrong([*ROWS.sides(), (wrong, [], [])])
                self.wrong_sizes([(wrong, ["n"])])
                self.wrong([("i", ["n", wrong], [])])
                self.wrong([("i", [], [wrong])])
                self.wrong_sizes([("i", [wrong, "n"])])
            if not is_product(wrong):
                self.wrong([("i", wrong, [])])
                self.wrong([("i", [], wrong)])
                self.wrong([*ROWS.sides(), ("i", wrong, wrong)])
                self.wrong_sizes([("i", wrong)])
                self.wrong_sizes([("k", []), ("i", wrong)])

    def test_same_names(self):
        for sides in [sides_of(("r", "m", ""), ("r", "m", "")),
                      sides_of(("r", "m", "n"), ("c", "n", ""), ("r", "", "")),
                      sides_of(("c", "", ""), ("r", "", ""), ("r", "", ""))]:
            self.wrong(sides)
            self.wrong_sizes(without_steps(sides))

    def test_names_in_products(self):
        for sides in [sides_of(("r", "r", "")), sides_of(("r", "m r", "")), sides_of(("r", "c", ""), ("c", "n", "")),
                      sides_of(("r", "m", ""), ("c", "n r m", "")), sides_of(("c", "c c", ""), ("r", "", ""))]:
            self.wrong(sides)
            self.wrong_sizes(without_steps(sides))
        for sides in [sides_of(("r", "", "r")), sides_of(("r", "m", "m r")), sides_of(("r", "m", "c"), ("c", "n", "")),
                      sides_of(("r", "m", ""), ("c", "n", "n r"))]:
            self.wrong(sides)

    def test_not_wrong(self):
        sides = sides_of(("abcdefghij", "abcdefghii a", "abcdefghii"), ("rr", "r", "c"), ("ra", "", ""))
        self.assertEqual(Plain(sides).sizes(), ["a", "abcdefghii", "c", "r"])
        self.assertEqual(arranged(without_steps(sides), "r").sizes(), ["a", "abcdefghii", "r"])


class Walks(Check):

    def works(self):
        return [lambda walk: jumps(ROWS, walk), lambda walk: joined(ROWS, walk),
                lambda walk: same_run(ROWS, walk, ROWS, ["r", "c"]), lambda walk: same_run(ROWS, walk, None, None),
                lambda route: same_run(ROWS, ["r", "c"], ROWS, route)]

    def test_other_objects(self):
        for wrong in any_objects() + [("r", "c"), {"r": 1, "c": 2}, "rc", ROWS, ROWS.sides(), {"r": "c"}]:
            for work in self.works():
                self.check(InvalidWalk, wrong, work)

    def test_other_lists(self):
        for wrong in [[], ["r"], ["c"], ["r", "r"], ["r", "c", "c"], ["r", "c", "r"], ["r", "c", "m"], ["r", "m"],
                      ["r", None], ["r", ["c"]], [("r",), ("c",)], ["r", "C"], ["r", ""], [0, 1], [["r", "c"]]]:
            for work in self.works():
                self.check(InvalidWalk, wrong, work)

    def test_walks_of_another_table(self):
        other = plain_of(("a", "m", ""), ("b", "n", "m"))
        self.check(InvalidWalk, ["r", "c"], lambda walk: jumps(other, walk))
        self.check(InvalidWalk, ["r", "c"], lambda route: same_run(ROWS, ["r", "c"], other, route))
        self.check(InvalidWalk, ["a", "b"], lambda walk: same_run(ROWS, walk, other, ["r", "c"]))


class Letters(Check):

    def test_kept(self):
        for wrong in any_objects() + ["r", "c", "k", "mn", ["n"], ("n",), {"n": 1}, ROWS]:
            self.check(InvalidLetter, wrong, lambda size: kept(ROWS, size))
        self.check(InvalidLetter, "n", lambda size: kept(plain_of(("i", "", "")), size))

    def test_arranged(self):
        for wrong in any_objects() + [["n"], ("n",), {"n": 1}, ROWS, "N", "n "]:
            if not is_letter(wrong):
                self.check(InvalidLetter, wrong, lambda size: arranged([("r", ["n"])], size))
                self.check(InvalidLetter, wrong, lambda size: arranged([("r", ["n"]), ("c", ["n"])], size))


if __name__ == "__main__":
    unittest.main()
