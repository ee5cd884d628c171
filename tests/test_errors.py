import unittest

from laidround.errors import LaidError, NoAsk, NoBox, NoNumber, NoSpiral

UNDER = (NoSpiral, NoBox, NoAsk, NoNumber)
OF_TEXT = (NoSpiral, NoBox, NoAsk)


class ErrorsTest(unittest.TestCase):
    def test_laid_error_is_a_value_error(self):
        self.assertTrue(issubclass(LaidError, ValueError))
        self.assertIsNot(LaidError, ValueError)

    def test_each_stands_under_laid_error(self):
        for kind in UNDER:
            self.assertTrue(issubclass(kind, LaidError))
            self.assertIsNot(kind, LaidError)

    def test_none_stands_under_another_one(self):
        for kind in UNDER:
            for other in UNDER:
                if kind is not other:
                    self.assertFalse(issubclass(kind, other), (kind, other))

    def test_str_tells_the_text(self):
        for kind in OF_TEXT:
            for text in ("", "why", "two words", "a\nb"):
                self.assertEqual(str(kind(text)), text)

    def test_no_number_keeps_its_number(self):
        for number in (0, 1, -1, 10 ** 20, -10 ** 20):
            self.assertEqual(NoNumber(number).number, number)
            self.assertIs(type(NoNumber(number).number), int)
            self.assertIs(type(str(NoNumber(number))), str)

    def test_each_is_caught_as_laid_error(self):
        for error in (NoSpiral("x"), NoBox("x"), NoAsk("x"), NoNumber(1)):
            with self.assertRaises(LaidError):
                raise error


if __name__ == "__main__":
    unittest.main()
