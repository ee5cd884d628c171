import unittest

from laidround.others.arms import number_by_arms, place_by_arms
from laidround.spirals.places import number_at, place_of

from cases import Case, soon
from laying import FEW_SPIRALS, NEAR_SPIRALS, ROUNDS, SPIRALS, STEPS, far_numbers, lay, lay_places, spots_on, stepped
from laying import turned

LONGEST = 10 ** 6
SMALL = tuple((first, second) for first in range(1, 8) for second in range(1, 8))
UNLIKE = ((1, 30), (30, 1), (2, 25), (25, 2), (12, 13), (13, 12), (20, 20), (40, 3), (3, 40))
FEW_ARMS = ((1, 1), (1, 2), (2, 1), (3, 3), (1, 9), (9, 1), (4, 7))
LONG = (
    (1, LONGEST), (LONGEST, 1), (2, LONGEST), (LONGEST, 2), (LONGEST, LONGEST), (LONGEST - 1, LONGEST),
    (LONGEST, LONGEST - 1), (1000, 77), (77, 1000), (5, 5),
)
FAR = 10 ** 9


def turned_place(spiral, ahead, aside):
    """The place so far by the heading and so far by the one behind the first turn."""
    start, heading, turn = spiral
    return stepped(stepped((0, 0), heading, ahead), turned(heading, turn), aside)


class PlacesTest(Case):
    def test_told(self):
        spiral = (1, "e", "l")
        told = [place_by_arms(spiral, (2, 3), number) for number in range(1, 15)]
        self.assertEqual(told, [
            (0, 0), (1, 0), (2, 0), (2, 1), (2, 2), (2, 3), (1, 3), (0, 3), (-1, 3), (-1, 2), (-1, 1), (-1, 0),
            (-1, -1), (0, -1),
        ])
        other = (0, "n", "r")
        told = [place_by_arms(other, (1, 2), number) for number in range(8)]
        self.assertEqual(told, [(0, 0), (0, 1), (1, 1), (2, 1), (2, 0), (2, -1), (1, -1), (0, -1)])

    def test_shortest_arms_are_the_spiral(self):
        for spiral in SPIRALS:
            for number in range(spiral[0], spiral[0] + 150):
                self.assertEqual(place_by_arms(spiral, (1, 1), number), place_of(spiral, number))
            for number, place in far_numbers(spiral):
                self.assertEqual(place_by_arms(spiral, (1, 1), number), place)
                self.assertEqual(number_by_arms(spiral, (1, 1), place), number)
            for place in ((FAR, FAR), (-FAR, FAR), (FAR, -FAR), (-FAR, -FAR), (7, -FAR), (-FAR, 7), (0, 0), (-1, 2)):
                self.assertEqual(number_by_arms(spiral, (1, 1), place), number_at(spiral, place))

    def against_laid(self, spiral, arms, runs):
        places, laid_runs = lay(spiral, runs, arms)
        for number, place in places.items():
            self.assertEqual(place_by_arms(spiral, arms, number), place, (spiral, arms, number))
            self.assertEqual(number_by_arms(spiral, arms, place), number, (spiral, arms, place))

    def test_small_arms_against_laid(self):
        for spiral in NEAR_SPIRALS:
            for arms in SMALL:
                self.against_laid(spiral, arms, 30)

    def test_unlike_arms_against_laid(self):
        for spiral in NEAR_SPIRALS:
            for arms in UNLIKE:
                self.against_laid(spiral, arms, 20)

    def test_each_start_against_laid(self):
        for spiral in SPIRALS:
            for arms in FEW_ARMS:
                self.against_laid(spiral, arms, 18)

    def test_long_first_runs_against_laid(self):
        for spiral in ((1, "e", "l"), (-10 ** 18, "s", "r")):
            for arms in ((1000, 1), (1, 1000), (700, 600)):
                self.against_laid(spiral, arms, 7)

    def test_far_against_laid_runs(self):
        for spiral in FEW_SPIRALS:
            for arms in LONG:
                for number, place in far_numbers(spiral, arms, (0,) + ROUNDS):
                    self.assertEqual(place_by_arms(spiral, arms, number), place, (spiral, arms, number))
                    self.assertEqual(number_by_arms(spiral, arms, place), number, (spiral, arms, place))

    def test_far_numbers_there_and_back_and_one_step_on(self):
        offsets = [10 ** power + by for power in range(3, 20) for by in (-1, 0, 1)]
        for spiral in FEW_SPIRALS:
            for arms in LONG:
                for number in [spiral[0] + offset for offset in offsets] + [10 ** 20 - 1, 10 ** 20]:
                    along, up = place_by_arms(spiral, arms, number)
                    self.assertEqual(number_by_arms(spiral, arms, (along, up)), number)
                    beyond, above = place_by_arms(spiral, arms, number + 1)
                    self.assertIn((beyond - along, above - up), STEPS.values())

    def test_no_number_below_the_start(self):
        for arms in ((1, 1), (2, 3), (LONGEST, 1), (LONGEST, LONGEST)):
            self.assert_no_number_below(lambda spiral, number: place_by_arms(spiral, arms, number))


class NumbersTest(Case):
    def test_told(self):
        spiral = (1, "e", "l")
        self.assertEqual(number_by_arms(spiral, (2, 3), (0, 0)), 1)
        self.assertEqual(number_by_arms(spiral, (2, 3), (0, -1)), 14)
        for place in ((0, 1), (1, 1), (0, 2), (1, 2)):
            self.assertIsNone(number_by_arms(spiral, (2, 3), place))

    def each_place(self, spiral, arms, reach):
        # So many runs lead round all places that are asked of.
        runs = 4 * (reach + 2)
        numbers = lay_places(spiral, runs, arms)
        for along in range(-reach, reach + 1):
            for up in range(-reach, reach + 1):
                told = number_by_arms(spiral, arms, (along, up))
                self.assertEqual(told, numbers.get((along, up)), (spiral, arms, along, up))

    def test_each_place_about_the_middle(self):
        for spiral in NEAR_SPIRALS:
            for arms in ((1, 1), (1, 2), (2, 1), (2, 2), (3, 2), (2, 5), (5, 2), (1, 7), (7, 1), (6, 6)):
                self.each_place(spiral, arms, 9)

    def test_each_place_about_the_middle_of_other_starts(self):
        for spiral in SPIRALS:
            for arms in ((3, 2), (1, 4), (4, 1)):
                self.each_place(spiral, arms, 5)

    def test_none_just_within_the_first_runs(self):
        for spiral in SPIRALS:
            for arms in LONG + ((2, 2), (3, 2), (2, 3)):
                first, second = arms
                for ahead in {0, first // 2, first - 1}:
                    for aside in spots_on(second - 1):
                        place = turned_place(spiral, ahead, aside)
                        self.assertIsNone(number_by_arms(spiral, arms, place), (spiral, arms, place))

    def test_numbers_all_round_those_that_are_never_stepped_on(self):
        for spiral in FEW_SPIRALS:
            for arms in LONG + ((2, 2), (3, 2), (2, 3)):
                first, second = arms
                for ahead in {-1, 0, first // 2, first - 1, first}:
                    for aside in (-1, 0, second, second + 1):
                        self.back_and_forth(spiral, arms, turned_place(spiral, ahead, aside))
                for aside in {0, second // 2, second}:
                    for ahead in (-2, -1, first, first + 1):
                        self.back_and_forth(spiral, arms, turned_place(spiral, ahead, aside))

    def back_and_forth(self, spiral, arms, place):
        number = number_by_arms(spiral, arms, place)
        self.assertIsNotNone(number, (spiral, arms, place))
        self.assertEqual(place_by_arms(spiral, arms, number), place)

    def test_far_places_there_and_back(self):
        sizes = (3 * LONGEST, 10 ** 8 + 1, FAR - 1, FAR)
        edges = sorted({sign * size for size in sizes for sign in (1, -1)} | {-FAR // 3, -1, 0, 1, 4 * LONGEST})
        places = [(along, up) for along in edges for up in edges if max(abs(along), abs(up)) >= 3 * LONGEST]
        for spiral in FEW_SPIRALS:
            for arms in LONG:
                for place in places:
                    self.back_and_forth(spiral, arms, place)


class WholeTest(Case):
    def test_far_asks_are_told_soon(self):
        with soon():
            for spiral in SPIRALS:
                for arms in LONG:
                    place_by_arms(spiral, arms, 10 ** 20)
                    number_by_arms(spiral, arms, (FAR, -FAR))
                    number_by_arms(spiral, arms, (5, 5))

    def test_kinds(self):
        for spiral in SPIRALS:
            for arms in ((1, 1), (2, 3), (LONGEST, 1)):
                for number in (spiral[0], spiral[0] + 1, 10 ** 20):
                    self.assert_row(place_by_arms(spiral, arms, number), 2)
                for place in ((0, 0), turned_place(spiral, -1, -1), (-FAR, FAR)):
                    self.assert_whole(number_by_arms(spiral, arms, place))

    def test_the_same_again_whatever_is_asked_between(self):
        spiral, arms, place = (5, "w", "r"), (4, 9), (10 ** 6, -3)
        told = (place_by_arms(spiral, arms, 10 ** 20), number_by_arms(spiral, arms, place))
        place_by_arms((7, "n", "l"), (1, 3), 12)
        number_by_arms((7, "n", "l"), (3, 1), (2, 2))
        self.assertEqual((place_by_arms(spiral, arms, 10 ** 20), number_by_arms(spiral, arms, place)), told)
        self.assertEqual((spiral, arms, place), ((5, "w", "r"), (4, 9), (10 ** 6, -3)))


if __name__ == "__main__":
    unittest.main()
