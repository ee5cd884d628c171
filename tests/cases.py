"""What several test files ask of the program."""

import contextlib
import signal
import unittest

from laidround.errors import LaidError, NoNumber

from laying import SPIRALS, below


@contextlib.contextmanager
def soon(seconds=10):
    """What stands within fails where it takes longer; it is broken off then."""
    def too_late(number, frame):
        raise AssertionError(f"not told within {seconds} seconds")

    before = signal.signal(signal.SIGALRM, too_late)
    # One limit may stand within another, whose rest goes on behind it.
    rest = signal.alarm(seconds)
    try:
        yield
    finally:
        signal.alarm(0)
        signal.signal(signal.SIGALRM, before)
        signal.alarm(rest)


class Case(unittest.TestCase):
    def setUp(self):
        # What goes number by number far out would never end: it is to fail instead.
        self.enterContext(soon(120))

    def assert_whole(self, value):
        self.assertIs(type(value), int)

    def assert_row(self, value, many):
        """A tuple of so many whole numbers."""
        self.assertIs(type(value), tuple)
        self.assertEqual(len(value), many)
        for item in value:
            self.assert_whole(item)

    def assert_no_number_below(self, asked):
        """asked(spiral, number) refuses what is less than the start, and only that."""
        for spiral in SPIRALS:
            asked(spiral, spiral[0])
            for number in below(spiral):
                with self.assertRaises(NoNumber) as caught:
                    asked(spiral, number)
                self.assertEqual(caught.exception.number, number)
                self.assert_whole(caught.exception.number)
                self.assertIsInstance(caught.exception, LaidError)
