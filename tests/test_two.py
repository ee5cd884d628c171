import itertools
import unittest

from laidround.errors import NoNumber
from laidround.others.two import moved, same_places, turned_by
from laidround.spirals.places import number_at, place_of

from cases import Case, soon
from laying import FEW_SPIRALS, NEAR_SPIRALS, SPIRALS, WAYS, far_numbers, lay, lay_places

FAR = 10 ** 20
STARTS = (1, 0, -1, 2, -7, 30, 10 ** 18, -10 ** 18)


def with_start(start, way):
    return (start,) + way


def same_laid(one, other, first, last):
    """The numbers at the same place in both, as two laid spirals tell."""
    ones, runs = lay(one)
    others, runs = lay(other)
    found = [number for number in sorted(ones) if number in others and ones[number] == others[number]]
    return tuple(number for number in found if first <= number <= last)


def same_asked(one, other, first, last):
    """The same, far out: number by number."""
    least = max(first, one[0], other[0])
    numbers = range(least, last + 1)
    return tuple(number for number in numbers if place_of(one, number) == place_of(other, number))


class MovedTest(Case):
    def test_told(self):
        self.assertEqual([moved((1, "e", "l"), (1, "n", "l"), number) for number in range(1, 10)],
                         [1, 8, 9, 2, 3, 4, 5, 6, 7])
        self.assertEqual([moved((1, "e", "l"), (0, "e", "r"), number) for number in range(1, 10)],
                         [0, 1, 8, 7, 6, 5, 4, 3, 2])

    def test_near_by_laying_both(self):
        for one in SPIRALS:
            places, runs = lay(one, 12)
            for other in NEAR_SPIRALS + ((0, "e", "l"), (-10 ** 18, "n", "r"), (10 ** 18, "s", "l")):
                numbers = lay_places(other, 16)
                for number, place in places.items():
                    self.assertEqual(moved(one, other, number), numbers[place], (one, other, number))

    def test_far_by_places_and_numbers(self):
        for one in FEW_SPIRALS:
            for other in ((1, "e", "l"), (-3, "n", "r"), (10 ** 18, "w", "l"), (-10 ** 18, "s", "r")):
                for number, place in far_numbers(one):
                    self.assertEqual(moved(one, other, number), number_at(other, place), (one, other, number))
                told = moved(one, other, FAR)
                self.assertEqual(place_of(other, told), place_of(one, FAR))
                self.assertEqual(moved(other, one, told), FAR)

    def test_there_and_back(self):
        for one, other in itertools.product(FEW_SPIRALS, repeat=2):
            for number in (one[0], one[0] + 1, one[0] + 77, one[0] + 10 ** 12):
                self.assertEqual(moved(other, one, moved(one, other, number)), number)

    def test_no_number_below_the_start(self):
        for other in ((1, "e", "l"), (-10 ** 18, "n", "r"), (10 ** 18, "w", "l")):
            self.assert_no_number_below(lambda spiral, number: moved(spiral, other, number))

    def test_only_this_spirals_start_counts(self):
        self.assertEqual(moved((1, "e", "l"), (100, "e", "l"), 5), 104)
        with self.assertRaises(NoNumber) as caught:
            moved((100, "e", "l"), (1, "e", "l"), 99)
        self.assertEqual(caught.exception.number, 99)


class SamePlacesTest(Case):
    def test_told(self):
        self.assertEqual(same_places((1, "e", "l"), (1, "e", "r"), 1, 30), (1, 2, 6, 11, 19, 28))
        self.assertEqual(same_places((1, "e", "l"), (1, "n", "l"), -5, 30), (1,))
        self.assertEqual(same_places((1, "e", "l"), (3, "n", "l"), 1, 30), (4, 5, 6, 7, 8, 9))

    def test_near_by_laying_both(self):
        for one in NEAR_SPIRALS:
            for way in WAYS:
                for start in range(-11, 14):
                    other = with_start(start, way)
                    for first, last in ((-20, 200), (1, 60), (17, 18), (40, 170), (5, 4)):
                        told = same_places(one, other, first, last)
                        self.assertEqual(told, same_laid(one, other, first, last), (one, other, first, last))

    def test_other_starts_by_laying_both(self):
        for start in STARTS:
            for way, other_way in itertools.product(WAYS, repeat=2):
                for more in (0, 1, 2, 4, 6):
                    one, other = with_start(start, way), with_start(start + more, other_way)
                    told = same_places(one, other, start - 3, start + 300)
                    self.assertEqual(told, same_laid(one, other, start - 3, start + 300), (one, other))

    def test_like_spirals_share_all(self):
        for spiral in SPIRALS:
            start = spiral[0]
            for first, last in ((start, start), (start, start + 99), (start + 7, start + 50), (FAR - 9, FAR)):
                self.assertEqual(same_places(spiral, spiral, first, last), tuple(range(first, last + 1)))
            self.assertEqual(same_places(spiral, spiral, start - 40, start + 2), (start, start + 1, start + 2))

    def test_none_below_either_start(self):
        for way in WAYS:
            one, other = with_start(-4, way), with_start(10, way)
            for first, last in ((-4, 9), (0, 9), (9, 9), (-30, 9), (-30, -5), (-9999, 0)):
                self.assertEqual(same_places(one, other, first, last), ())
                self.assertEqual(same_places(other, one, first, last), ())
                self.assertEqual(same_places(one, one, first, min(last, -5)), ())

    def test_whole_stretches_far_out(self):
        # A quarter turn of a ring is twice the ring numbers: with starts so far apart, and headings
        # a quarter apart, both lay three sides of that ring alike.
        for ring in (5, 1000, 10 ** 6, 10 ** 9):
            one, other = (0, "e", "l"), (2 * ring, "n", "l")
            inner, outer = (2 * ring - 1) ** 2, (2 * ring + 1) ** 2 - 1
            first = inner + 2 * ring
            self.assertEqual(same_places(one, other, first - 50, first + 9), tuple(range(first, first + 10)))
            self.assertEqual(same_places(one, other, outer - 9, outer + 50), tuple(range(outer - 9, outer + 1)))
            self.assertEqual(same_places(other, one, outer, outer), (outer,))

    def test_none_of_a_first_one_above_the_last(self):
        for spiral in SPIRALS:
            start = spiral[0]
            for first, last in ((start + 1, start), (start + 50, start + 20), (FAR, -FAR), (start, start - 1)):
                self.assertEqual(same_places(spiral, spiral, first, last), ())

    def test_far_number_by_number(self):
        firsts = (10 ** 4, 10 ** 9, 10 ** 12 + 77, 4 * 10 ** 18 - 40, 4 * 10 ** 18 + 2 * 10 ** 9 - 40, FAR - 99)
        pairs = itertools.product(FEW_SPIRALS[:8], ((1, "e", "l"), (3, "n", "r"), (-1, "w", "r"), (9, "s", "l")))
        for one, other in pairs:
            for first in firsts:
                told = same_places(one, other, first, first + 99)
                self.assertEqual(told, same_asked(one, other, first, first + 99), (one, other, first))

    def test_places_on_the_line_that_a_mirroring_leaves(self):
        one, other = (1, "e", "l"), (1, "e", "r")
        for ring in (3, 1000, 10 ** 6, 5 * 10 ** 9 - 1):
            east, west = number_at(one, (ring, 0)), number_at(one, (-ring, 0))
            for number in (east, west):
                self.assertEqual(same_places(one, other, number, number), (number,))
                self.assertEqual(same_places(one, other, number - 1, number + 1), (number,))
                self.assertEqual(same_places(one, other, number + 1, number + 2), ())

    def test_many_against_number_by_number(self):
        for one, other in (
            ((1, "e", "l"), (1, "e", "l")), ((1, "e", "l"), (1, "n", "r")), ((0, "w", "l"), (2, "w", "l")),
            ((0, "s", "r"), (120, "w", "r")), ((0, "s", "r"), (-60, "s", "l")),
        ):
            for first in (1, 5000, 10 ** 18):
                told = same_places(one, other, first, first + 9999)
                self.assertEqual(told, same_asked(one, other, first, first + 9999), (one, other, first))

    def test_ten_thousand_far_out_are_told_soon(self):
        with soon():
            for start in (1, 2, 3, 10 ** 18, -10 ** 18):
                for way in WAYS:
                    for other in ((1, "e", "l"), (1, "n", "r")):
                        same_places(with_start(start, way), other, FAR - 9999, FAR)


class TurnedByTest(Case):
    def test_told(self):
        for one, other, told in (
            ((1, "e", "l"), (1, "e", "l"), (0, False)),
            ((1, "e", "l"), (1, "n", "l"), (1, False)),
            ((1, "e", "l"), (9, "s", "l"), (3, False)),
            ((1, "n", "r"), (0, "e", "r"), (3, False)),
            ((1, "e", "l"), (1, "w", "r"), (0, True)),
            ((1, "e", "l"), (1, "e", "r"), (2, True)),
            ((1, "n", "l"), (1, "n", "r"), (0, True)),
            ((1, "n", "r"), (1, "e", "l"), (3, True)),
        ):
            self.assertEqual(turned_by(one, other), told, (one, other))

    def carried(self, place, quarters, mirrored):
        along, up = place
        if mirrored:
            along = -along
        for quarter in range(quarters):
            along, up = -up, along
        return (along, up)

    def test_each_pair_carries_each_place(self):
        starts = ((1, 1), (0, 5), (-3, 10 ** 18))
        for (way, other_way), (start, other_start) in itertools.product(itertools.product(WAYS, repeat=2), starts):
            one, other = with_start(start, way), with_start(other_start, other_way)
            quarters, mirrored = turned_by(one, other)
            ones, runs = lay(one, 30)
            others, runs = lay(other, 30)
            self.assertGreater(len(ones), 200)
            for number, place in ones.items():
                became = self.carried(place, quarters, mirrored)
                self.assertEqual(became, others[number - start + other_start], (one, other, number))

    def test_starts_do_not_matter(self):
        for way, other_way in itertools.product(WAYS, repeat=2):
            told = {turned_by(with_start(start, way), with_start(other, other_way))
                    for start in STARTS for other in STARTS}
            self.assertEqual(len(told), 1)

    def test_kinds(self):
        for way, other_way in itertools.product(WAYS, repeat=2):
            told = turned_by(with_start(1, way), with_start(-5, other_way))
            self.assertIs(type(told), tuple)
            quarters, mirrored = told
            self.assert_whole(quarters)
            self.assertIn(quarters, (0, 1, 2, 3))
            self.assertIs(type(mirrored), bool)


class WholeTest(Case):
    def test_kinds(self):
        for spiral in SPIRALS:
            for number in (spiral[0], spiral[0] + 1, FAR):
                self.assert_whole(moved(spiral, (4, "n", "r"), number))
            self.assert_row(same_places(spiral, spiral, spiral[0], spiral[0] + 4), 5)
            self.assert_row(same_places(spiral, spiral, 5, 4), 0)

    def test_the_same_again_whatever_is_asked_between(self):
        one, other = (5, "w", "r"), (5, "w", "l")

        def asked():
            return (moved(one, other, FAR), same_places(one, other, 5, 99), turned_by(one, other))

        told = asked()
        moved((7, "n", "l"), one, 12)
        same_places((7, "n", "l"), other, 12, 90)
        turned_by(other, (7, "n", "l"))
        self.assertEqual(asked(), told)
        self.assertEqual((one, other), ((5, "w", "r"), (5, "w", "l")))


if __name__ == "__main__":
    unittest.main()
