"""Point 4: each refusal is a class of its own, straight under SkeinError."""

import unittest

from skeinwood import errors
from skeinwood.errors import SkeinError, Torn

PLAIN = ["NoText", "NoPiece", "Loose", "Unlevel", "TooLong", "NoPlace", "NoName", "NothingDone", "NoLine"]
ALL = PLAIN + ["Torn"]


def class_of(name):
    return getattr(errors, name)


class ErrorsTest(unittest.TestCase):
    def test_skein_error_stands_straight_under_value_error(self):
        self.assertEqual(SkeinError.__bases__, (ValueError,))

    def test_each_stands_straight_under_skein_error(self):
        for name in ALL:
            with self.subTest(name):
                self.assertEqual(class_of(name).__bases__, (SkeinError,))
                self.assertEqual(class_of(name).__name__, name)

    def test_none_stands_under_another(self):
        for name in ALL:
            for other in ALL:
                with self.subTest(name, other=other):
                    self.assertEqual(issubclass(class_of(name), class_of(other)), name == other)

    def test_plain_ones_are_made_of_nothing(self):
        for name in PLAIN:
            with self.subTest(name):
                made = class_of(name)()
                self.assertIsInstance(made, SkeinError)
                self.assertIsInstance(made, ValueError)

    def test_each_is_taken_by_its_own_name_and_by_the_base(self):
        for name in ALL:
            for base in (class_of(name), SkeinError, ValueError):
                with self.subTest(name, base=base):
                    with self.assertRaises(base):
                        raise class_of(name)(3) if name == "Torn" else class_of(name)()

    def test_torn_bears_its_row(self):
        for row in (0, 1, 7, 10 ** 29):
            self.assertEqual(Torn(row).row, row)

    def test_torn_is_not_made_without_a_row(self):
        with self.assertRaises(TypeError):
            Torn()

    def test_torn_bears_its_row_when_raised(self):
        with self.assertRaises(SkeinError) as taken:
            raise Torn(12)
        self.assertEqual(taken.exception.row, 12)


if __name__ == "__main__":
    unittest.main()
