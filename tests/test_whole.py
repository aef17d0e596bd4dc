"""[1], [2]: what the document promises over the whole program."""

import unittest
from copy import deepcopy

from calls import CALLS, FORM, HALF, MIXED, ROWS, error_of, store
from cellplaces.errors import CellError, InvalidNumber, InvalidTable, InvalidValues, InvalidWalk, SharedPlaces
from cellplaces.forms import letter
from cellplaces.live import Store
from cellplaces.moves import same_run
from cellplaces.plain import Plain, cell_of, hole
from cellplaces.shapes import Shape
from plains import plain_of
from samples import any_objects, is_form, is_shape, is_table
from tables import shape_of

OWN = [FORM, letter("a"), HALF, shape_of(("k", "0", "3")), ROWS, plain_of(("k", "n", "m"))]


def kept(worth):
    """A value that equals only what is the same, to the kind: for comparisons and to see changes."""
    if is_form(worth):
        return ("form", worth.terms())
    if is_shape(worth):
        return ("shape", [(name, low.terms(), high.terms()) for name, low, high in worth.loops()])
    if is_table(worth):
        return ("table", deepcopy(worth.sides()))
    if worth.__class__ is Store:
        return ("store", kept(worth.held()), kept(worth.sizes()), worth.room)
    if worth.__class__ in (list, tuple):
        return (worth.__class__.__name__, [kept(part) for part in worth])
    if worth.__class__ is dict:
        return ("dict", sorted((name, kept(part)) for name, part in worth.items()))
    return (worth.__class__.__name__, worth)


def spoil(worth):
    """Change all lists and dictionaries within a value."""
    if worth.__class__ in (list, tuple):
        for part in worth:
            spoil(part)
    if worth.__class__ is list:
        worth.clear()
        worth.append("spoiled")
    if worth.__class__ is dict:
        for part in list(worth.values()):
            spoil(part)
        worth.clear()
        worth["spoiled"] = 10 ** 9


def copied(worth):
    """A copy of a value whose lists and dictionaries are new; forms, shapes and tables are the same."""
    if worth.__class__ in (list, tuple):
        return worth.__class__([copied(part) for part in worth])
    if worth.__class__ is dict:
        return {name: copied(part) for name, part in worth.items()}
    return worth


def is_own(value):
    return is_form(value) or is_shape(value) or is_table(value)


def twisted(worth):
    """The value with one list as a tuple, one tuple as a list, or one dictionary as a list or a tuple."""
    if worth.__class__ is dict:
        yield list(worth.items())
        yield tuple(worth.items())
        yield list(worth)
    if worth.__class__ in (list, tuple):
        yield list(worth) if worth.__class__ is tuple else tuple(worth)
        yield {at: part for at, part in enumerate(worth)}
    yield from within(worth, twisted)


def swapped(worth):
    """The value with a form, a shape or a plain table in one place of it in which something else stands."""
    for own in OWN:
        if own.__class__ is not worth.__class__:
            yield own
    yield from within(worth, swapped)


def boxed(worth):
    """The value with one part of it in a list, in a tuple or in a dictionary of its own."""
    yield [worth]
    yield (worth,)
    yield {"n": worth}
    yield from within(worth, boxed)


def within(worth, change):
    """The value with one change in one of its parts."""
    if worth.__class__ in (list, tuple):
        for at, part in enumerate(worth):
            for other in change(part):
                yield worth[:at] + worth.__class__([other]) + worth[at + 1:]
    if worth.__class__ is dict:
        for name, part in worth.items():
            for other in change(part):
                yield {**worth, name: other}


def right_ones(parameters):
    return [copied(right) for _, right, _, _ in parameters]


class Right(unittest.TestCase):

    def test_by_position_and_by_names(self):
        for call, parameters in CALLS:
            with self.subTest(call=call, parameters=[name for name, _, _, _ in parameters]):
                names = [name for name, _, _, _ in parameters]
                found = kept(call(*right_ones(parameters)))
                self.assertEqual(kept(call(**dict(zip(names, right_ones(parameters))))), found)

    def test_methods_by_names(self):
        found = store()
        self.assertEqual(found.lay(cell=[2, 3], item="z"), 13)
        self.assertEqual([found.look(cell=[2, 3]), found.take(cell=[2, 3]), found.grow(size="m")], ["z", "z", 0])
        self.assertEqual([found.limit(room=50), found.attempt(action=len)], [None, 1])

    def test_equal_calls(self):
        for call, parameters in CALLS:
            with self.subTest(call=call):
                found = [kept(call(*right_ones(parameters))) for _ in range(3)]
                self.assertEqual(found[0], found[1])
                self.assertEqual(found[0], found[2])

    def test_arguments_stay(self):
        for call, parameters in CALLS:
            with self.subTest(call=call):
                given = right_ones(parameters)
                call(*given)
                self.assertEqual(kept(given), kept([right for _, right, _, _ in parameters]))

    def test_arguments_that_are_changed_later(self):
        for call, parameters in CALLS:
            with self.subTest(call=call):
                given = right_ones(parameters)
                found = call(*given)
                before = kept(found)
                spoil(given)
                self.assertEqual(kept(found), before)
                self.assertEqual(kept(call(*right_ones(parameters))), before)

    def test_results_that_are_changed_later(self):
        for call, parameters in CALLS:
            with self.subTest(call=call):
                given = right_ones(parameters)
                found = call(*given)
                before = kept(found)
                spoil(found)
                self.assertEqual(kept(given), kept([right for _, right, _, _ in parameters]))
                self.assertEqual(kept(call(*given)), before)

    def test_parts_of_objects_that_are_changed_later(self):
        sides, loops = ROWS.sides(), HALF.loops()
        table, shape = Plain(sides), Shape(loops)
        for asked in [table.sides, table.sizes, shape.loops, shape.names, shape.sizes]:
            spoil(asked())
        spoil(sides)
        spoil(loops)
        self.assertTrue(table == ROWS and shape == HALF)
        self.assertEqual((kept(table), kept(shape)), (kept(ROWS), kept(HALF)))


class Check(unittest.TestCase):

    def check(self, error, wrong, work):
        """The work raises just this error with this very object, which stays what it is."""
        with self.subTest(error=error, wrong=wrong):
            before = kept(wrong)
            with self.assertRaises(CellError) as caught:
                work()
            self.assertIs(caught.exception.__class__, error)
            self.assertIs(caught.exception.value, wrong)
            self.assertEqual(kept(wrong), before)


class Wrong(Check):

    def wrong_ones(self, right, is_right):
        """Objects of all kinds, and what looks like the right argument and is not."""
        found = any_objects() + list(twisted(right)) + list(swapped(right)) + list(boxed(right))
        return [wrong for wrong in found if not is_right(wrong)]

    def test_each_argument(self):
        for call, parameters in CALLS:
            for at, (_, right, error, is_right) in enumerate(parameters):
                for wrong in self.wrong_ones(right, is_right) if error else []:
                    given = right_ones(parameters)
                    given[at] = wrong
                    self.check(error_of(error), wrong, lambda: call(*given))

    def test_the_first_wrong_argument(self):
        for call, parameters in CALLS:
            for at, (_, right, error, is_right) in enumerate(parameters):
                for wrong in self.wrong_ones(right, is_right) if error else []:
                    for behind in [None, -1, [], ROWS, HALF, FORM]:
                        given = right_ones(parameters)[:at] + [wrong] + [behind] * (len(parameters) - at - 1)
                        self.check(error_of(error), wrong, lambda: call(*given))

    def test_named_in_another_order(self):
        for call, parameters in CALLS:
            if parameters and all(error for _, _, error, _ in parameters):
                given = {name: ["wrong", name] for name, _, _, _ in reversed(parameters)}
                name, _, error, _ = parameters[0]
                self.check(error_of(error), given[name], lambda: call(**given))

    def test_deeper_than_the_limits(self):
        deep = []
        for _ in range(5000):
            deep = [deep]
        for call, parameters in CALLS:
            for at, (_, _, error, _) in enumerate(parameters):
                for wrong in [deep, (deep,), {"n": deep}] if error else []:
                    given = right_ones(parameters)
                    given[at] = wrong
                    with self.assertRaises(error_of(error)) as caught:
                        call(*given)
                    self.assertIs(caught.exception.value, wrong)


class Last(Check):
    """Errors that come after all other errors, and those of the arguments behind the first two."""

    def test_shared_places(self):
        values = {"m": 2, "n": 2, "p": 2}
        for work in [lambda: hole(MIXED), lambda: cell_of(MIXED, values, 0), lambda: Store(MIXED, values)]:
            with self.assertRaises(CellError) as caught:
                work()
            self.assertIs(caught.exception.__class__, SharedPlaces)

    def test_before_shared_places(self):
        values = {"m": 2, "n": 2, "p": 2}
        for wrong in any_objects() + [{"m": 2, "n": 2}, {**values, "p": 0}, {**values, "q": None}]:
            self.check(InvalidValues, wrong, lambda: cell_of(MIXED, wrong, None))
            self.check(InvalidValues, wrong, lambda: cell_of(MIXED, wrong, 0))
            self.check(InvalidValues, wrong, lambda: Store(MIXED, wrong))
        for wrong in [None, -1, True, "0", [0], ROWS, FORM, HALF]:
            self.check(InvalidNumber, wrong, lambda: cell_of(MIXED, values, wrong))

    def test_runs(self):
        for wrong in [None, HALF, ROWS.sides(), [ROWS]]:
            self.check(InvalidTable, wrong, lambda: same_run(wrong, ["r"], wrong, ["r"]))
            self.check(InvalidTable, wrong, lambda: same_run(ROWS, ["r", "c"], wrong, None))
        for wrong in [["r"], ["r", "r"], ["r", "c", "c"], ["r", "c", "x"], ["r", "x"], ("r", "c"), [["r"], "c"], "rc",
                      [], ["c", None], [1, 2], ["r", HALF], {"r": 1, "c": 2}]:
            self.check(InvalidWalk, wrong, lambda: same_run(ROWS, wrong, None, None))
            self.check(InvalidWalk, wrong, lambda: same_run(ROWS, ["r", "c"], ROWS, wrong))
            self.check(InvalidWalk, wrong, lambda: same_run(ROWS, wrong, ROWS, wrong))


if __name__ == "__main__":
    unittest.main()
