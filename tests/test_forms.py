"""[10], [11], [12]: forms."""

import random
import unittest
from fractions import Fraction
from math import gcd

from cellplaces.forms import letter, number
from samples import any_objects, is_form
from tables import value_of

NAMES = ["a", "b", "bb", "zzzzzzzzzz"]


def grown(rolls, depth):
    """A form, and the function of values that it has to be."""
    if depth == 0:
        if rolls.randrange(3):
            name = rolls.choice(NAMES)
            return letter(name), lambda values: Fraction(values[name])
        worth = rolls.randrange(-4, 5)
        return number(worth), lambda values: Fraction(worth)
    one, first = grown(rolls, depth - 1)
    other, second = grown(rolls, rolls.randrange(depth))
    way = rolls.randrange(6)
    if way == 0:
        return one + other, lambda values: first(values) + second(values)
    if way == 1:
        return one - other, lambda values: first(values) - second(values)
    if way == 2:
        return one * other, lambda values: first(values) * second(values)
    if way == 3:
        return -one, lambda values: -first(values)
    if way == 4:
        worth = rolls.choice([-6, -1, 1, 2, 3, 10 ** 12])
        return one.over(worth), lambda values: first(values) / worth
    name = rolls.choice(NAMES)
    return one.put(name, other), lambda values: first({**values, name: second(values)})


class Examples(unittest.TestCase):

    def test_examples_of_the_document(self):
        i, j, n = letter("i"), letter("j"), letter("n")
        half = (i * (i + 1)).over(2) + j
        self.assertEqual(half.terms(), [(1, 2, ["i"]), (1, 1, ["j"]), (1, 2, ["i", "i"])])
        self.assertEqual(half.degree(), 2)
        self.assertEqual(half.at({"i": 4, "j": 1}), 11)
        self.assertIsNone(i.over(2).at({"i": 3}))
        self.assertTrue(half.put("j", i + 1) == ((i + 1) * (i + 2)).over(2))
        self.assertEqual((i - i).terms(), [])
        self.assertTrue(number(3) * n == n * 3)
        self.assertEqual(n.letters(), ["n"])
        self.assertEqual((n * n - n).at({"n": 10 ** 20}), 9999999999999999999900000000000000000000)


class Made(unittest.TestCase):

    def test_letter(self):
        for name in ["a", "z", "az", "abcdefghij", "zzzzzzzzzz"]:
            self.assertEqual(letter(name).terms(), [(1, 1, [name])])
        self.assertEqual(letter(name="q").terms(), [(1, 1, ["q"])])

    def test_number(self):
        for value in [1, -1, 7, 10 ** 199, -10 ** 199]:
            self.assertEqual(number(value).terms(), [(value, 1, [])])
        self.assertEqual(number(value=5).terms(), [(5, 1, [])])
        self.assertEqual(number(0).terms(), [])


class Signs(unittest.TestCase):

    def setUp(self):
        self.i, self.j = letter("i"), letter("j")

    def test_sum(self):
        self.assertEqual((self.i + self.j).terms(), [(1, 1, ["i"]), (1, 1, ["j"])])
        self.assertEqual((self.i + self.i).terms(), [(2, 1, ["i"])])
        self.assertEqual((self.i + 3).terms(), [(3, 1, []), (1, 1, ["i"])])
        self.assertEqual((self.i + 0).terms(), [(1, 1, ["i"])])
        self.assertEqual((self.i.over(2) + self.i.over(3)).terms(), [(5, 6, ["i"])])
        self.assertEqual((self.i.over(6) + self.i.over(3)).terms(), [(1, 2, ["i"])])
        self.assertEqual((self.i + -self.i).terms(), [])

    def test_difference(self):
        self.assertEqual((self.i - self.j).terms(), [(1, 1, ["i"]), (-1, 1, ["j"])])
        self.assertEqual((self.i - 3).terms(), [(-3, 1, []), (1, 1, ["i"])])
        self.assertEqual((self.i - self.i).terms(), [])
        self.assertEqual((number(2) - 5).terms(), [(-3, 1, [])])

    def test_product(self):
        self.assertEqual((self.j * self.i).terms(), [(1, 1, ["i", "j"])])
        self.assertEqual((self.i * -4).terms(), [(-4, 1, ["i"])])
        self.assertEqual((self.i * 0).terms(), [])
        self.assertEqual((number(0) * self.i).terms(), [])
        self.assertEqual(((self.i + 1) * (self.i - 1)).terms(), [(-1, 1, []), (1, 1, ["i", "i"])])
        self.assertEqual((self.i.over(4) * self.j.over(-6) * 8).terms(), [(-1, 3, ["i", "j"])])

    def test_minus(self):
        self.assertEqual((-(self.i - 2)).terms(), [(2, 1, []), (-1, 1, ["i"])])
        self.assertEqual((-number(0)).terms(), [])
        self.assertEqual((-self.i.over(3)).terms(), [(-1, 3, ["i"])])

    def test_long_numbers(self):
        worth = 10 ** 199 + 7
        form = self.i * worth - worth
        self.assertEqual(form.terms(), [(-worth, 1, []), (worth, 1, ["i"])])
        self.assertEqual((form * form).at({"i": 3}), 4 * worth * worth)

    def test_whole_numbers_stand_on_the_right_alone(self):
        for work in [lambda: 1 + self.i, lambda: 1 - self.i, lambda: 2 * self.i]:
            self.assertRaises(TypeError, work)


class Equal(unittest.TestCase):

    def test_by_different_ways(self):
        i, j = letter("i"), letter("j")
        self.assertTrue((i + j) * (i - j) == i * i - j * j)
        self.assertTrue((i + j) * (i + j) == i * i + j * i * 2 + j * j)
        self.assertTrue(i.over(2) + i.over(2) == i)
        self.assertTrue(i.over(2) * 2 == i)
        self.assertTrue((i * 6).over(-4) == -(i * 3).over(2))
        self.assertTrue(j + i == i + j)
        self.assertTrue(i - i == number(0))
        self.assertTrue(i * 0 == j - j)
        self.assertFalse(i + j != j + i)

    def test_unlike_forms(self):
        i, j = letter("i"), letter("j")
        forms = [i, j, i * i, i * j, i + j, i - j, -i, i * 2, i.over(2), i + 1, number(0), number(1), number(-1)]
        for at, one in enumerate(forms):
            for place, other in enumerate(forms):
                self.assertIs(one == other, at == place)
                self.assertIs(one != other, at != place)

    def test_other_objects(self):
        for form in [number(0), number(1), letter("a"), letter("a").over(2)]:
            for other in any_objects():
                if not is_form(other):
                    with self.subTest(form=form.terms(), other=other):
                        self.assertIs(form == other, False)
                        self.assertIs(other == form, False)
                        self.assertIs(form != other, True)


class Over(unittest.TestCase):

    def test_lowest_terms(self):
        i = letter("i")
        self.assertEqual(i.over(1).terms(), [(1, 1, ["i"])])
        self.assertEqual((i * 4).over(6).terms(), [(2, 3, ["i"])])
        self.assertEqual((i * 4).over(-6).terms(), [(-2, 3, ["i"])])
        self.assertEqual((i * -4).over(-2).terms(), [(2, 1, ["i"])])
        self.assertEqual(i.over(2).over(-3).terms(), [(-1, 6, ["i"])])
        self.assertEqual(i.over(divisor=-1).terms(), [(-1, 1, ["i"])])
        self.assertEqual(number(0).over(-5).terms(), [])
        self.assertEqual(i.over(10 ** 30).terms(), [(1, 10 ** 30, ["i"])])


class Terms(unittest.TestCase):

    def test_order(self):
        a, b, bb = letter("a"), letter("b"), letter("bb")
        form = bb * bb + b * a + bb + b * bb + a * a * a + b * b + a - 1 + b * bb * a
        self.assertEqual(form.terms(), [
            (-1, 1, []), (1, 1, ["a"]), (1, 1, ["bb"]),
            (1, 1, ["a", "b"]), (1, 1, ["b", "b"]), (1, 1, ["b", "bb"]), (1, 1, ["bb", "bb"]),
            (1, 1, ["a", "a", "a"]), (1, 1, ["a", "b", "bb"]),
        ])

    def test_letters(self):
        a, b, c = letter("a"), letter("b"), letter("c")
        self.assertEqual((c * b * b + a - a).letters(), ["b", "c"])
        self.assertEqual((letter("aa") + letter("b") + a).letters(), ["a", "aa", "b"])
        self.assertEqual(number(7).letters(), [])
        self.assertEqual(number(0).letters(), [])

    def test_degree(self):
        a, b = letter("a"), letter("b")
        self.assertEqual([number(0).degree(), number(9).degree(), a.degree()], [0, 0, 1])
        self.assertEqual((a * b * b + a * a).degree(), 3)
        self.assertEqual(((a + 1) * (a + 1) - a * a).degree(), 1)

    def test_kinds_of_values(self):
        form = letter("a").over(2) - 3
        self.assertIs(form.terms().__class__, list)
        for term in form.terms():
            self.assertEqual([part.__class__ for part in term], [int, int, list])
            self.assertIs(term.__class__, tuple)

    def test_many_terms(self):
        total = number(0)
        for place in range(200):
            name = "abcdefghij"[place // 20] + "abcdefghijklmnopqrst"[place % 20]
            total = total + letter(name).over(place + 1)
        self.assertEqual([bottom for _, bottom, _ in total.terms()], list(range(1, 201)))
        self.assertEqual(len((total * total).terms()), 200 * 201 // 2)

    def test_returned_lists_may_be_changed(self):
        form = letter("a") * letter("b") + 1
        form.terms()[1][2].append("c")
        form.terms().clear()
        form.letters().append("c")
        self.assertEqual(form.terms(), [(1, 1, []), (1, 1, ["a", "b"])])
        self.assertEqual(form.letters(), ["a", "b"])
        self.assertEqual(form.degree(), 2)
        self.assertTrue(form == letter("a") * letter("b") + 1)


class At(unittest.TestCase):

    def test_whole_values(self):
        i, j = letter("i"), letter("j")
        self.assertEqual((i * i * j - 3).at({"i": -2, "j": -5}), -23)
        self.assertEqual((i.over(2) + j.over(2)).at({"i": 3, "j": 5}), 4)
        self.assertEqual((i.over(2) - j.over(3)).at({"i": -4, "j": 3 * 10 ** 29}), -2 - 10 ** 29)
        self.assertEqual((i.over(6) + j.over(10)).at({"i": 9, "j": 5}), 2)
        self.assertEqual(i.at(values={"i": 0}), 0)
        self.assertEqual(i.over(3).at({"i": -6}), -2)

    def test_long_values(self):
        i, worth = letter("i"), 10 ** 30 - 1
        self.assertEqual((i * i * i - i).over(6).at({"i": worth}), (worth ** 3 - worth) // 6)
        self.assertEqual((i * i * i - i).over(6).at({"i": -worth}), (worth - worth ** 3) // 6)
        power = number(1)
        for _ in range(40):
            power = power * i
        self.assertEqual(power.at({"i": worth}), worth ** 40)

    def test_none_exactly_where_it_is_no_whole_number(self):
        i = letter("i")
        form = (i * i).over(4) + i.over(6)
        for worth in range(-30, 31):
            exact = Fraction(worth * worth, 4) + Fraction(worth, 6)
            wanted = int(exact) if exact.denominator == 1 else None
            self.assertEqual(form.at({"i": worth}), wanted)

    def test_more_letters_than_the_form_has(self):
        i = letter("i")
        self.assertEqual(i.at({"i": 2, "n": -5, "zzz": 0}), 2)
        self.assertEqual((i - i).at({"i": 2}), 0)
        self.assertEqual((i - i).at({}), 0)
        self.assertEqual(number(4).at({}), 4)
        self.assertIsNone(number(4).over(3).at({"i": 3}))

    def test_values_stay_and_may_be_changed_later(self):
        i, values = letter("i"), {"n": 1, "i": 5}
        self.assertEqual((i + 1).at(values), 6)
        self.assertEqual(values, {"n": 1, "i": 5})
        values["i"] = 7
        self.assertEqual((i + 1).at(values), 8)


class Put(unittest.TestCase):

    def test_ordinary(self):
        i, j, n = letter("i"), letter("j"), letter("n")
        self.assertTrue((i * i + j).put("i", n - 1) == n * n - n * 2 + 1 + j)
        self.assertTrue((i * j).put("i", j) == j * j)
        self.assertTrue((i * j).put(name="i", other=number(0)) == number(0))
        self.assertTrue((i + j).put("i", -j) == number(0))
        self.assertTrue(i.over(2).put("i", j.over(3)) == j.over(6))
        self.assertTrue((i * i * i - i).put("i", number(3)) == number(24))

    def test_the_letter_itself(self):
        i = letter("i")
        self.assertTrue((i * i).put("i", i + 1) == i * i + i * 2 + 1)
        self.assertTrue((i * i + i).put("i", i) == i * i + i)

    def test_swapped_names_are_put_at_once(self):
        i, j = letter("i"), letter("j")
        self.assertTrue((i * j * j).put("j", i * j) == i * i * i * j * j)

    def test_a_letter_that_does_not_stand_in_the_form(self):
        i, n = letter("i"), letter("n")
        self.assertTrue((i + 1).put("n", n * n) == i + 1)
        self.assertTrue(number(0).put("i", n) == number(0))
        self.assertTrue(number(5).put("i", n) == number(5))

    def test_what_cancels_out(self):
        total, power = number(0), number(1)
        for place in range(100):
            total = total + letter("y" + "abcdefghij"[place // 10] + "abcdefghij"[place % 10])
        for _ in range(39):
            power = power * letter("x")
        self.assertEqual((power * letter("x") - power * total).put("x", total).terms(), [])


class Stay(unittest.TestCase):

    def test_forms_stay_what_they_were(self):
        i, j = letter("i"), letter("j")
        form, other = i * 2 + j.over(3) + 1, i - j
        before, behind = form.terms(), other.terms()
        for _ in range(2):
            found = [form + other, form - other, form * other, -form, form.over(5), form.put("i", other), form + 1]
            self.assertEqual([form.terms(), other.terms()], [before, behind])
            form.at({"i": 1, "j": 3})
            self.assertEqual([form.letters(), form.degree()], [["i", "j"], 1])
            self.assertEqual(found, [form + other, form - other, form * other, -form, form.over(5),
                                     form.put("i", other), form + 1])
        kept = form
        kept += other
        self.assertEqual(form.terms(), before)
        self.assertTrue(kept == i * 3 - (j * 2).over(3) + 1)


class Grown(unittest.TestCase):

    def test_against_fractions(self):
        rolls = random.Random(7)
        for _ in range(300):
            form, wanted = grown(rolls, rolls.randrange(1, 6))
            self.check_terms(form)
            for _ in range(3):
                values = {name: rolls.randrange(-10 ** rolls.randrange(1, 31), 10 ** 30) for name in NAMES}
                exact = wanted(values)
                self.assertEqual(value_of(form, values), exact)
                self.assertEqual(form.at(values), int(exact) if exact.denominator == 1 else None)

    def check_terms(self, form):
        terms = form.terms()
        order = [(len(names), names) for _, _, names in terms]
        self.assertEqual(order, sorted(order))
        self.assertEqual(len(order), len({(many, *names) for many, names in order}))
        for top, bottom, names in terms:
            self.assertNotEqual(top, 0)
            self.assertGreaterEqual(bottom, 1)
            self.assertEqual(gcd(top, bottom), 1)
            self.assertEqual(names, sorted(names))


if __name__ == "__main__":
    unittest.main()
