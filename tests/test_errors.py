"""The error classes."""

import unittest

from suredue.errors import BadText, CanNot, NoPlace, TooMuch, Unfit


class Errors(unittest.TestCase):
    def test_each_is_directly_under_its_class(self):
        self.assertEqual(NoPlace.__bases__, (LookupError,))
        for kind in (BadText, CanNot, TooMuch, Unfit):
            self.assertEqual(kind.__bases__, (ValueError,), kind)

    def test_place_is_kept(self):
        for error in (NoPlace(3), NoPlace(place=3)):
            self.assertEqual(error.place, 3)
            self.assertEqual(vars(error), {"place": 3})
            self.assertIsInstance(str(error), str)
        self.assertEqual(NoPlace(-1).place, -1)

    def test_line_is_kept(self):
        for error in (BadText(12), BadText(line=12)):
            self.assertEqual(error.line, 12)
            self.assertEqual(vars(error), {"line": 12})
            self.assertIsInstance(str(error), str)

    def test_the_others_take_nothing(self):
        for kind in (CanNot, TooMuch, Unfit):
            self.assertEqual(vars(kind()), {}, kind)
            self.assertIsInstance(str(kind()), str)
            with self.assertRaises(TypeError):
                kind(1)

    def test_values_wanted_are_wanted(self):
        for kind in (NoPlace, BadText):
            for args in ((), (1, 2)):
                with self.assertRaises(TypeError):
                    kind(*args)
        with self.assertRaises(TypeError):
            NoPlace(line=1)
        with self.assertRaises(TypeError):
            BadText(place=1)

    def test_they_can_be_raised_and_caught(self):
        for error in (NoPlace(1), BadText(1), CanNot(), TooMuch(), Unfit()):
            with self.assertRaises(error.__class__) as caught:
                raise error
            self.assertEqual(vars(caught.exception), vars(error))


if __name__ == "__main__":
    unittest.main()
