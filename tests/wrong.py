"""What a wrong argument has to raise."""

import unittest


class Check(unittest.TestCase):

    def check(self, error, wrong, work):
        """The work raises just this error, with just this object, which stays what it is."""
        with self.subTest(wrong=wrong):
            before = repr(wrong)
            with self.assertRaises(error) as caught:
                work(wrong)
            self.assertIs(caught.exception.__class__, error)
            self.assertIs(caught.exception.value, wrong)
            self.assertEqual(repr(wrong), before)
