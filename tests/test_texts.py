"""[15]: texts of forms."""

import random
import re
import unittest
from fractions import Fraction
from itertools import product

from cellplaces.errors import InvalidText
from cellplaces.forms import letter, number
from cellplaces.texts import read, write
from samples import any_objects

I, J, M, N = letter("i"), letter("j"), letter("m"), letter("n")


class Grammar:
    """A plain reading of the grammar of [15] for short texts; it tells what a text is worth, or None."""

    def __init__(self, text, values):
        self.text, self.values, self.at = text, values, 0

    def sign(self):
        while self.text[self.at:self.at + 1] == " ":
            self.at += 1
        return self.text[self.at:self.at + 1]

    def take(self, pattern):
        self.sign()
        found = re.compile(pattern).match(self.text, self.at)
        if found is None:
            raise LookupError
        self.at = found.end()
        return found.group()

    def whole(self):
        try:
            found = self.expression()
            return found if self.sign() == "" else None
        except LookupError:
            return None

    def expression(self):
        ahead = 1
        if self.sign() == "-":
            self.at += 1
            ahead = -1
        total = ahead * self.term()
        while self.sign() in ("+", "-"):
            ahead = 1 if self.take("[+-]") == "+" else -1
            total += ahead * self.term()
        return total

    def term(self):
        total = self.factor()
        while self.sign() == "*":
            self.at += 1
            total *= self.factor()
        return total

    def factor(self):
        if self.sign() == "(":
            self.at += 1
            found = self.expression()
            self.take("[)]")
        else:
            word = self.take("[0-9]+|[a-z]{1,10}(?![a-z])")
            found = self.values[word] if word in self.values else Fraction(int(word))
        while self.sign() == "/":
            self.at += 1
            divisor = int(self.take("[0-9]+"))
            if divisor == 0:
                raise LookupError
            found = found / divisor
        return found


class Read(unittest.TestCase):

    def test_examples_of_the_document(self):
        half = (I * (I + 1)).over(2) + J
        self.assertTrue(read("i * (i + 1) / 2 + j") == half)
        self.assertEqual(read("-n/2*m - 07").terms(), [(-7, 1, []), (-1, 2, ["m", "n"])])
        self.assertTrue(read(write(half)) == half)

    def check(self, text, form):
        with self.subTest(text):
            self.assertTrue(read(text) == form, text)

    def test_factors(self):
        self.check("0", number(0))
        self.check("12", number(12))
        self.check("i", I)
        self.check("abcdefghij", letter("abcdefghij"))
        self.check("(i)", I)
        self.check("((7))", number(7))
        self.assertTrue(read(text="n") == N)

    def test_noughts_ahead(self):
        self.check("007", number(7))
        self.check("00", number(0))
        self.check("i/002", I.over(2))
        self.check("i/0010*00", number(0))

    def test_blanks(self):
        self.check("   i  ", I)
        self.check(" - i *  ( j + 1 )  /  2 ", -(I * (J + 1)).over(2))
        self.check("( ( 3 ) )", number(3))
        self.check("i/ 2 / 3", I.over(6))

    def test_signs_between(self):
        self.check("i+j-m", I + J - M)
        self.check("i-j-m", I - J - M)
        self.check("i-(j-m)", I - J + M)
        self.check("i - j * m + n", I - J * M + N)
        self.check("2*i*3*j", I * J * 6)

    def test_minus_ahead(self):
        self.check("-i", -I)
        self.check("-i+j", J - I)
        self.check("-2*i", I * -2)
        self.check("-i*j-m", -(I * J) - M)
        self.check("-(i-j)", J - I)
        self.check("(-i)*(-j)", I * J)
        self.check("i*(-1)", -I)
        self.check("i-(-j)", I + J)
        self.check("-(-(-i))", -I)
        self.check("-0", number(0))

    def test_divisions(self):
        self.check("i/2", I.over(2))
        self.check("i/2/3/1", I.over(6))
        self.check("1/2", number(1).over(2))
        self.check("6/4", number(3).over(2))
        self.check("6/3/2", number(1))
        self.check("i/2*j/3", (I * J).over(6))
        self.check("2*i/2", I)
        self.check("(i+j)/2", (I + J).over(2))
        self.check("i+j/2", I + J.over(2))
        self.check("1/2*i", I.over(2))
        self.check("(i/2)/3*4", (I * 2).over(3))
        self.check("-i/2", -I.over(2))

    def test_equal_calls(self):
        one = read("i*i+j")
        one.terms().clear()
        one.letters().append("k")
        self.check("i*i+j", one)
        self.assertEqual(read("i*i+j").terms(), [(1, 1, ["j"]), (1, 1, ["i", "i"])])

    def test_long_texts(self):
        self.check("+".join(["i"] * 200), I * 200)
        self.check("*".join(["1"] * 200), number(1))
        self.check(" " * 399 + "i", I)
        self.check("1/" + "9" * 200, number(1).over(10 ** 200 - 1))
        self.check("9" * 200 + "*i", I * (10 ** 200 - 1))
        self.assertEqual(read("*".join(["i"] * 40)).terms(), [(1, 1, ["i"] * 40)])

    def test_all_lengths_of_numbers(self):
        for many in range(1, 201):
            digits = ("1203456789" * 20)[:many]
            self.check(digits, number(int(digits)))
            self.check("0" * many + "5", number(5))
            self.check("i/" + digits, I.over(int(digits)))

    def test_nested_texts(self):
        self.check("(" * 30 + "i" + ")" * 30, I)
        self.check("(-" * 30 + "i" + ")" * 30, I)
        self.check("(1+" * 30 + "i" + ")" * 30, I + 30)
        self.check("(2*" * 30 + "(i+1)" + ")" * 30, (I + 1) * 2 ** 30)

    def test_no_error_beyond_the_limits(self):
        self.check("(" * 20000 + "i" + ")" * 20000, I)
        self.check("1" * 5000, number((10 ** 5000 - 1) // 9))
        self.check("0" * 5000 + "/" + "1" * 5000, number(0))
        self.check("+".join(["i"] * 20000), I * 20000)

    def test_against_the_grammar_all_short_texts(self):
        values = {"a" * many: Fraction(1000003 + many) for many in range(1, 6)}
        numbers = {name: int(worth) for name, worth in values.items()}
        for many in range(6):
            for signs in product("a2 0+-*/()", repeat=many):
                text = "".join(signs)
                self.compare(text, Grammar(text, values).whole(), numbers)

    def test_against_the_grammar_mixed_texts(self):
        values = {"a": Fraction(1000003), "bc": Fraction(-1000033), "xyzxyzxyzx": Fraction(77)}
        numbers = {name: int(worth) for name, worth in values.items()}
        words = ["a", "bc", "xyzxyzxyzx", "07", "3", "/2", "/ 03", "+", "-", "*", "(", ")", "(-", " "]
        rolls = random.Random(3)
        found = 0
        for _ in range(20000):
            text = "".join([rolls.choice(words) for _ in range(rolls.randrange(1, 9))])
            known = [word for word in re.findall("[a-z]+", text) if word not in values]
            if not known:
                worth = Grammar(text, values).whole()
                found += worth is not None
                self.compare(text, worth, numbers)
        self.assertGreater(found, 500)

    def compare(self, text, worth, numbers):
        """The text has this value, or writes no form where it is None."""
        try:
            form = read(text)
        except InvalidText as error:
            self.assertIsNone(worth, text)
            self.assertIs(error.value, text)
            return
        self.assertIsNotNone(worth, text)
        self.assertEqual(form.at(numbers), int(worth) if worth.denominator == 1 else None, text)
        self.assertTrue(read(write(form)) == form, text)


class Wrong(unittest.TestCase):

    def check(self, wrong):
        with self.subTest(wrong=wrong if len(repr(wrong)) < 100 else "long"):
            with self.assertRaises(InvalidText) as caught:
                read(wrong)
            self.assertIs(caught.exception.__class__, InvalidText)
            self.assertIs(caught.exception.value, wrong)

    def test_other_objects(self):
        for wrong in any_objects():
            if wrong.__class__ is not str:
                self.check(wrong)

    def test_nothing_written(self):
        for wrong in ["", " ", "   ", "()", "( )", "(())", "i*()", "-", "-()"]:
            self.check(wrong)

    def test_wrong_signs(self):
        for sign in [chr(code) for code in range(128)]:
            if sign not in " +-*/()0123456789abcdefghijklmnopqrstuvwxyz":
                for wrong in [sign, "i" + sign, sign + "i", "i + " + sign, "i" + sign + "j", "(i)" + sign]:
                    self.check(wrong)
        for wrong in ["i\tj", "i\n", "\ti", "1.5", "i**2", "i^2", "1e5", "i_", "I", "1_000", "+", "i,j", "[i]", "{i}"]:
            self.check(wrong)

    def test_signs_that_are_no_ascii(self):
        for wrong in ["\u00e9", "i + \u0660", "\u00b2", "i\u00a0+ j", "2\u0663", "i \u2212 j", "a\u00e9"]:
            self.check(wrong)

    def test_long_letters(self):
        for wrong in ["abcdefghijk", "i + abcdefghijk", "number" * 2, "a" * 400]:
            self.check(wrong)

    def test_blanks_within(self):
        for wrong in ["1 2", "i j", "i 2", "2 i", "a b + c", "i / 1 2"]:
            self.check(wrong)

    def test_factors_side_by_side(self):
        for wrong in ["2i", "i2", "i(j)", "(i)j", "(i)(j)", "2(i)", "(i)2", "i/2j", "i/2(j)", "07i"]:
            self.check(wrong)

    def test_signs_side_by_side(self):
        for wrong in ["+i", "--i", "-+i", "i+-j", "i--j", "i*-j", "i*+j", "i**j", "i*/2", "i//2", "i+*j", "(+i)",
                      "i*-1", "- -i", "*i", "/i", "/2", "i/-2", "i/+2", "(*i)"]:
            self.check(wrong)

    def test_signs_at_the_end(self):
        for wrong in ["i+", "i-", "i*", "i/", "(i+)", "(i*)", "(i/)", "(-)", "i + ", "1/"]:
            self.check(wrong)

    def test_divisors(self):
        for wrong in ["i/0", "i/00", "i/0000*j", "0/0", "i/2/0", "i/j", "1/i", "i/(2)", "i/(j)", "i/2/j", "i/ 0",
                      "i/" + "0" * 100]:
            self.check(wrong)

    def test_parentheses(self):
        for wrong in ["(", ")", "(i", "i)", "((i)", "(i))", ")i(", "i)+(j", "(i)+j)", "(i+(j)", "i*(j", ")("]:
            self.check(wrong)

    def test_long_and_deep(self):
        self.check("(" * 100000 + "i" + ")" * 99999)
        self.check("(" * 99999 + "i" + ")" * 100000)
        self.check("(" * 100000)
        self.check("-" * 100000)
        self.check("i+" * 100000)
        self.check("i*" * 100000)
        self.check("a" * 100000)
        self.check("1" * 100000 + "a")
        self.check("i/" + "0" * 100000)
        self.check(" " * 100000)

    def test_wrong_texts_are_not_worked_out(self):
        much = "*".join(["(a+b+c+d+e+f+g+h+i+j)"] * 18)
        for wrong in [much + ")", much + "*", much + "/0", much + " i", much + "+A"]:
            self.check(wrong)


class Write(unittest.TestCase):

    def check(self, form):
        text = write(form)
        with self.subTest(text[:100]):
            self.assertIs(text.__class__, str)
            self.assertTrue(read(text) == form)
            self.assertEqual(write(form), text)

    def test_back_and_forth(self):
        forms = [number(0), number(1), number(-1), number(40), I, -I, I * 2, I * -2, I.over(2), -I.over(2),
                 number(1).over(3), number(-5).over(3), (I * 3).over(-4), I * I * J, I + 1, I - 1, -I - J, I - I,
                 I * J - J * 3 + (M * N).over(7) - number(2).over(9), letter("abcdefghij") - letter("abcdefghi")]
        for form in forms:
            self.check(form)
        self.assertTrue(read(write(form=I)) == I)

    def test_long_numbers(self):
        for many in [1, 2, 63, 64, 65, 127, 128, 129, 192, 199, 200]:
            for worth in [10 ** (many - 1), 10 ** many - 1, 10 ** many // 7]:
                self.check(number(worth))
                self.check(I * -worth + 1)
                self.check(I.over(worth) - number(worth - 1).over(worth))

    def test_many_terms_of_a_high_degree(self):
        power = number(1)
        for _ in range(36):
            power = power * letter("abcdefghij")
        total = number(0)
        for place in range(200):
            part = power.over(10 ** 199 + place)
            for name in ["abcd"[place % 4], "efghi"[place // 4 % 5], "klmnopqrst"[place // 20]]:
                part = part * letter(name)
            total = total + part
        self.assertEqual(len(total.terms()), 200)
        self.check(total)

    def test_no_error_beyond_the_limits(self):
        long = number(10 ** 5000 - 3)
        self.check(long)
        self.check(I.over(10 ** 5000 - 3))


if __name__ == "__main__":
    unittest.main()
