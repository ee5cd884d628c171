"""What several test files ask of the program."""

import unittest

from laidround.errors import LaidError, NoNumber

from laying import SPIRALS, below


class Case(unittest.TestCase):
    def assert_whole(self, value):
        self.assertIs(type(value), int)

    def assert_row(self, value, many):
        """A tuple of so many whole numbers."""
        self.assertIs(type(value), tuple)
        self.assertEqual(len(value), many)
        for item in value:
            self.assert_whole(item)

    def assert_no_number_below(self, asked):
        """asked(spiral, number) refuses what is less than the start, and only that."""
        for spiral in SPIRALS:
            asked(spiral, spiral[0])
            for number in below(spiral):
                with self.assertRaises(NoNumber) as caught:
                    asked(spiral, number)
                self.assertEqual(caught.exception.number, number)
                self.assert_whole(caught.exception.number)
                self.assertIsInstance(caught.exception, LaidError)
