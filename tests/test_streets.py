import unittest

from laidround.spirals.places import number_at, place_of
from laidround.sums.streets import count_so_far, first_so_far, streets_of

from cases import Case, soon
from laying import FEW_SPIRALS, NEAR_SPIRALS, SPIRALS, far_numbers, lay

MOST = 10 ** 18
FURTHEST = 2 * 10 ** 9
FAR_STREETS = (
    999, 1000, 1001, 10 ** 6, 10 ** 6 + 1, 123456789, 10 ** 9 - 1, 10 ** 9, 10 ** 9 + 1, FURTHEST - 2, FURTHEST - 1,
    FURTHEST,
)


def far_of(place):
    return abs(place[0]) + abs(place[1])


class StreetsTest(Case):
    def test_told(self):
        spiral = (1, "e", "l")
        self.assertEqual([streets_of(spiral, number) for number in range(1, 12)], [0, 1, 2, 1, 2, 1, 2, 1, 2, 3, 2])

    def test_against_laid(self):
        for spiral in SPIRALS:
            places, runs = lay(spiral)
            for number, place in places.items():
                self.assertEqual(streets_of(spiral, number), far_of(place), (spiral, number))

    def test_far_against_laid_runs(self):
        for spiral in SPIRALS:
            for number, place in far_numbers(spiral):
                self.assertEqual(streets_of(spiral, number), far_of(place), (spiral, number))

    def test_far_places(self):
        for spiral in SPIRALS:
            for place in ((10 ** 9, 10 ** 9), (-10 ** 9, 10 ** 9), (10 ** 9, -10 ** 9), (-10 ** 9, 0), (7, -10 ** 9)):
                self.assertEqual(streets_of(spiral, number_at(spiral, place)), far_of(place))

    def test_no_number_below_the_start(self):
        self.assert_no_number_below(streets_of)


class CountsTest(Case):
    def test_told(self):
        spiral = (1, "e", "l")
        self.assertEqual([count_so_far(spiral, many, 1) for many in range(10)], [0, 0, 1, 1, 2, 2, 3, 3, 4, 4])
        self.assertEqual([count_so_far(spiral, many, 0) for many in range(4)], [0, 1, 1, 1])
        self.assertEqual(count_so_far(spiral, 9, 2), 4)
        self.assertEqual(count_so_far(spiral, 25, 2), 8)
        self.assertEqual(count_so_far(spiral, 25, 4), 4)

    def test_of_none(self):
        for spiral in SPIRALS:
            for streets in (0, 1, 2, 3, 100) + FAR_STREETS:
                self.assertEqual(count_so_far(spiral, 0, streets), 0)

    def test_each_so_many_and_so_far_against_laid(self):
        for spiral in SPIRALS:
            most = 400 if spiral in NEAR_SPIRALS else 90
            places, runs = lay(spiral)
            counts = [0] * 26
            for many in range(most):
                told = [count_so_far(spiral, many, streets) for streets in range(26)]
                self.assertEqual(told, counts, (spiral, many))
                counts[far_of(places[spiral[0] + many])] += 1

    def test_one_more_just_where_the_next_is_so_far(self):
        for spiral in FEW_SPIRALS:
            for number, place in far_numbers(spiral):
                many = number - spiral[0]
                if many < MOST:
                    far = far_of(place)
                    for streets in {far, far - 1, far + 1, 0, far // 2, 10 ** 9}:
                        told = count_so_far(spiral, many, streets)
                        more = 1 if streets == far else 0
                        self.assertEqual(count_so_far(spiral, many + 1, streets), told + more, (spiral, many, streets))

    def test_one_more_at_each_of_those_that_are_so_far(self):
        for spiral in FEW_SPIRALS:
            for streets in (1, 2, 3, 17, 1000, 10 ** 6 + 1, 4 * 10 ** 8):
                for part in (0, 1, streets // 3, streets // 2, streets - 1, streets):
                    rest = streets - part
                    for place in ((part, rest), (-part, rest), (part, -rest), (-part, -rest)):
                        number = number_at(spiral, place)
                        many = number - spiral[0]
                        told = count_so_far(spiral, many, streets)
                        self.assertEqual(count_so_far(spiral, many + 1, streets), told + 1)
                        beyond = 1 if far_of(place_of(spiral, number + 1)) == streets else 0
                        self.assertEqual(count_so_far(spiral, many + 2, streets), told + 1 + beyond)

    def test_all_that_are_so_far(self):
        for spiral in SPIRALS:
            self.assertEqual(count_so_far(spiral, MOST, 0), 1)
            for streets in (1, 2, 3, 10, 999, 10 ** 6, 10 ** 8 + 1, 499999999):
                self.assertEqual(count_so_far(spiral, MOST, streets), 4 * streets)
                # As far as the square of the ring holds all of these.
                whole = (2 * streets + 1) ** 2
                self.assertEqual(count_so_far(spiral, whole, streets), 4 * streets)

    def test_whole_rings_hold_each_number_once(self):
        for spiral in NEAR_SPIRALS:
            for ring in range(9):
                many = (2 * ring + 1) ** 2
                self.assertEqual(sum(count_so_far(spiral, many, streets) for streets in range(2 * ring + 1)), many)
                self.assertEqual(count_so_far(spiral, many, 2 * ring + 1), 0)

    def test_far_corners_of_a_square(self):
        for spiral in SPIRALS:
            for ring in (5, 1000, 10 ** 8, 499999999):
                many = (2 * ring + 1) ** 2
                self.assertEqual(count_so_far(spiral, many, 2 * ring), 4)
                self.assertEqual(count_so_far(spiral, many - 1, 2 * ring), 3)
                self.assertEqual(count_so_far(spiral, many, 2 * ring - 1), 8)
                self.assertEqual(count_so_far(spiral, many, ring + 1), 4 * ring)
                self.assertEqual(count_so_far(spiral, many, ring), 4 * ring)
                self.assertEqual(count_so_far(spiral, many, 2 * ring + 1), 0)

    def test_none_further_than_so_many_get(self):
        for spiral in SPIRALS:
            for streets in (10 ** 9 + 1, FURTHEST - 1, FURTHEST):
                self.assertEqual(count_so_far(spiral, MOST, streets), 0)


class FirstTest(Case):
    def test_told(self):
        self.assertEqual([first_so_far((1, "e", "l"), streets) for streets in range(6)], [1, 2, 3, 10, 13, 26])
        self.assertEqual(first_so_far((-9, "s", "r"), 0), -9)

    def test_against_laid(self):
        for spiral in SPIRALS:
            places, runs = lay(spiral, 60)
            firsts = {}
            for number in sorted(places):
                firsts.setdefault(far_of(places[number]), number)
            for streets in range(28):
                self.assertEqual(first_so_far(spiral, streets), firsts[streets], (spiral, streets))

    def test_far(self):
        for spiral in SPIRALS:
            for streets in tuple(range(60)) + FAR_STREETS:
                number = first_so_far(spiral, streets)
                self.assertEqual(streets_of(spiral, number), streets)
                many = number - spiral[0]
                self.assertEqual(count_so_far(spiral, many, streets), 0, (spiral, streets))
                self.assertEqual(count_so_far(spiral, many + 1, streets), 1, (spiral, streets))


class WholeTest(Case):
    def test_far_asks_are_told_soon(self):
        with soon():
            for spiral in SPIRALS:
                for streets in FAR_STREETS:
                    first_so_far(spiral, streets)
                    count_so_far(spiral, MOST, streets)
                    count_so_far(spiral, MOST - 7, streets)
                streets_of(spiral, 10 ** 20)

    def test_kinds(self):
        for spiral in SPIRALS:
            for number in (spiral[0], spiral[0] + 1, 10 ** 20):
                self.assert_whole(streets_of(spiral, number))
            for streets in (0, 1, 2, FURTHEST):
                self.assert_whole(first_so_far(spiral, streets))
                for many in (0, 1, 2, 10, MOST):
                    self.assert_whole(count_so_far(spiral, many, streets))

    def test_the_same_again_whatever_is_asked_between(self):
        spiral = (5, "w", "r")
        told = (streets_of(spiral, 10 ** 20), count_so_far(spiral, MOST, 10 ** 8), first_so_far(spiral, 77))
        streets_of((7, "n", "l"), 12)
        count_so_far((7, "n", "l"), 12, 2)
        first_so_far((7, "n", "l"), 12)
        again = (streets_of(spiral, 10 ** 20), count_so_far(spiral, MOST, 10 ** 8), first_so_far(spiral, 77))
        self.assertEqual(again, told)
        self.assertEqual(spiral, (5, "w", "r"))


if __name__ == "__main__":
    unittest.main()
