"""[10], [11], [12] and [2]: wrong arguments of forms."""

import unittest

from cellplaces.errors import InvalidForm, InvalidLetter, InvalidNumber, InvalidText, InvalidValues
from cellplaces.forms import letter, number
from cellplaces.texts import write
from samples import any_objects, is_form, is_letter, is_whole


class Wrong(unittest.TestCase):

    def check(self, error, wrong, work):
        """The work raises just this error, with just this object."""
        with self.subTest(wrong=wrong):
            with self.assertRaises(error) as caught:
                work(wrong)
            self.assertIs(caught.exception.__class__, error)
            self.assertIs(caught.exception.value, wrong)

    def test_letter(self):
        for wrong in any_objects() + ["-", "a-", "{", "`", "z{", "aB", "Z", "a\n", " a"]:
            if not is_letter(wrong):
                self.check(InvalidLetter, wrong, letter)

    def test_number(self):
        for wrong in any_objects():
            if not is_whole(wrong):
                self.check(InvalidNumber, wrong, number)

    def test_signs(self):
        for form in [number(0), number(1), letter("a") + 2]:
            for wrong in any_objects():
                if not is_whole(wrong) and not is_form(wrong):
                    self.check(InvalidForm, wrong, lambda other: form + other)
                    self.check(InvalidForm, wrong, lambda other: form - other)
                    self.check(InvalidForm, wrong, lambda other: form * other)

    def test_over(self):
        for form in [number(0), letter("a")]:
            for wrong in any_objects():
                if not is_whole(wrong) or wrong == 0:
                    self.check(InvalidNumber, wrong, form.over)

    def test_at(self):
        for form in [number(0), letter("i"), letter("i") + letter("j")]:
            for wrong in any_objects():
                if wrong.__class__ is not dict:
                    self.check(InvalidValues, wrong, form.at)

    def test_at_dictionaries(self):
        form = letter("i") + letter("j")
        parts = [("k", None), ("k", True), ("k", "1"), ("k", [1]), ("k", number(1)), ("", 1), ("K", 1),
                 ("abcdefghijk", 1), (1, 1), (None, 1), (("k",), 1), (True, 1)]
        for name, value in parts:
            self.check(InvalidValues, {"i": 1, "j": 2, name: value}, form.at)
            self.check(InvalidValues, {name: value}, number(0).at)
        for wrong in [{}, {"i": 1}, {"j": 1}, {"i": 1, "k": 1}, {"i": 1, "j": True}, {"i": False, "j": 1},
                      {"i": 1, "j": None}, {"i": letter("i"), "j": 1}]:
            self.check(InvalidValues, wrong, form.at)

    def test_put(self):
        form = letter("a") + 1
        for wrong in any_objects():
            if not is_letter(wrong):
                self.check(InvalidLetter, wrong, lambda name: form.put(name, letter("b")))
            if not is_form(wrong):
                self.check(InvalidForm, wrong, lambda other: form.put("a", other))
                self.check(InvalidForm, wrong, lambda other: form.put("zz", other))
                self.check(InvalidForm, wrong, lambda other: number(0).put("a", other))

    def test_put_first_wrong_argument_first(self):
        for wrong in any_objects():
            if not is_letter(wrong):
                for other in any_objects():
                    self.check(InvalidLetter, wrong, lambda name: letter("a").put(name, other))

    def test_write(self):
        for wrong in any_objects():
            if not is_form(wrong):
                self.check(InvalidForm, wrong, write)

    def test_no_other_error(self):
        self.assertFalse(issubclass(InvalidForm, InvalidText))
        form = letter("a")
        self.assertRaises(InvalidForm, lambda: form + form.terms())
        self.assertEqual(form.terms(), [(1, 1, ["a"])])


if __name__ == "__main__":
    unittest.main()
