import unittest

from laidround.spirals.places import place_of
from laidround.sums.firsts import box_of_first, sides_of_first, sums_of_first

from cases import Case, soon
from laying import FEW_SPIRALS, ROUNDS, SPIRALS, far_runs, lay

MOST = 10 ** 18
GREATEST_RING = 499999999
RINGS = (0, 1, 2, 3, 10, 999, 10 ** 6 + 1, 10 ** 8, GREATEST_RING - 1, GREATEST_RING)


def round_places(places):
    alongs = [along for along, up in places]
    ups = [up for along, up in places]
    return (min(alongs), min(ups), max(alongs), max(ups))


def many_about(spiral):
    """So many, far out: about the corners, the middles of runs and the ends of rings."""
    found = {MOST - 1, MOST - 2, 10 ** 17 + 3, 123456789012345678}
    for rounds in ROUNDS:
        for run, begin, end, heading, place in far_runs(spiral, rounds):
            for number in (begin - 1, begin, begin + 1, (begin + end) // 2, end - 1, end, end + 1):
                found.add(number - spiral[0])
    for ring in RINGS[1:]:
        whole = (2 * ring + 1) ** 2
        found.update((whole - 2, whole - 1, whole, whole + 1, whole + ring, whole + 3 * ring))
    return sorted(many for many in found if 1 <= many < MOST)


class NoneTest(Case):
    def test_of_none(self):
        for spiral in SPIRALS:
            self.assertEqual(sums_of_first(spiral, 0), (0, 0))
            self.assertEqual(sides_of_first(spiral, 0), (0, 0))
            self.assertIsNone(box_of_first(spiral, 0))

    def test_of_the_start_alone(self):
        for spiral in SPIRALS:
            self.assertEqual(sums_of_first(spiral, 1), (0, 0))
            self.assertEqual(sides_of_first(spiral, 1), (0, 0))
            self.assertEqual(box_of_first(spiral, 1), (0, 0, 0, 0))


class NearTest(Case):
    def test_told(self):
        spiral = (1, "e", "l")
        sums = [sums_of_first(spiral, many) for many in range(1, 6)]
        self.assertEqual(sums, [(0, 0), (1, 0), (2, 1), (2, 2), (1, 3)])
        sides = [sides_of_first(spiral, many) for many in range(1, 6)]
        self.assertEqual(sides, [(0, 0), (1, 0), (2, 1), (2, 2), (2, 3)])
        self.assertEqual(box_of_first(spiral, 2), (0, 0, 1, 0))
        self.assertEqual(box_of_first(spiral, 5), (-1, 0, 1, 1))
        self.assertEqual(box_of_first(spiral, 10), (-1, -1, 2, 1))
        self.assertEqual(sums_of_first((0, "n", "r"), 3), (1, 2))
        self.assertEqual(sides_of_first((0, "n", "r"), 3), (1, 2))
        self.assertEqual(box_of_first((0, "w", "l"), 3), (-1, -1, 0, 0))

    def test_every_so_many_against_laid(self):
        for spiral in SPIRALS:
            places, runs = lay(spiral)
            alongs = ups = east = north = 0
            laid = []
            for many, number in enumerate(range(spiral[0], spiral[0] + 400), start=1):
                along, up = places[number]
                alongs += along
                ups += up
                east += along > 0
                north += up > 0
                laid.append((along, up))
                self.assertEqual(sums_of_first(spiral, many), (alongs, ups), (spiral, many))
                self.assertEqual(sides_of_first(spiral, many), (east, north), (spiral, many))
                self.assertEqual(box_of_first(spiral, many), round_places(laid), (spiral, many))


class FarTest(Case):
    def test_one_more_is_so_many_and_the_next(self):
        for spiral in FEW_SPIRALS:
            for many in many_about(spiral):
                # The next behind so many is as far behind the start as they are many.
                along, up = place_of(spiral, spiral[0] + many)
                alongs, ups = sums_of_first(spiral, many)
                self.assertEqual(sums_of_first(spiral, many + 1), (alongs + along, ups + up), (spiral, many))
                east, north = sides_of_first(spiral, many)
                told = (east + (along > 0), north + (up > 0))
                self.assertEqual(sides_of_first(spiral, many + 1), told, (spiral, many))
                left, low, right, high = box_of_first(spiral, many)
                told = round_places([(left, low), (right, high), (along, up)])
                self.assertEqual(box_of_first(spiral, many + 1), told, (spiral, many))

    def test_whole_rings(self):
        for spiral in SPIRALS:
            for ring in RINGS:
                many = (2 * ring + 1) ** 2
                half = ring * (2 * ring + 1)
                self.assertEqual(sums_of_first(spiral, many), (0, 0))
                self.assertEqual(sides_of_first(spiral, many), (half, half))
                self.assertEqual(box_of_first(spiral, many), (-ring, -ring, ring, ring))

    def test_one_ahead_of_a_whole_ring_lacks_its_last_place(self):
        for spiral in SPIRALS:
            for ring in RINGS[1:]:
                many = (2 * ring + 1) ** 2 - 1
                along, up = place_of(spiral, spiral[0] + many)
                self.assertEqual(sums_of_first(spiral, many), (-along, -up))

    def test_the_start_matters_not(self):
        for start, heading, turn in SPIRALS:
            for many in (2, 3, 77, 10 ** 9 + 7, MOST - 1, MOST):
                for asked in (sums_of_first, sides_of_first, box_of_first):
                    self.assertEqual(asked((start, heading, turn), many), asked((0, heading, turn), many))

    def test_the_box_lacks_less_than_one_row_of_places(self):
        for spiral in FEW_SPIRALS:
            for many in many_about(spiral)[::3]:
                left, low, right, high = box_of_first(spiral, many)
                wide, tall = right - left + 1, high - low + 1
                self.assertLessEqual(many, wide * tall)
                self.assertGreater(many, wide * tall - max(wide, tall))

    def test_told_soon(self):
        with soon():
            for spiral in SPIRALS:
                for many in (MOST - 12345, MOST - 1, MOST):
                    sums_of_first(spiral, many)
                    sides_of_first(spiral, many)
                    box_of_first(spiral, many)


class KindsTest(Case):
    def test_kinds(self):
        for spiral in SPIRALS:
            for many in (0, 1, 2, 9, 10, 1000, MOST):
                self.assert_row(sums_of_first(spiral, many), 2)
                self.assert_row(sides_of_first(spiral, many), 2)
                if many > 0:
                    self.assert_row(box_of_first(spiral, many), 4)

    def test_the_same_again_whatever_is_asked_between(self):
        spiral = (5, "w", "r")
        for asked in (sums_of_first, sides_of_first, box_of_first):
            told = asked(spiral, 10 ** 17 + 1)
            asked((7, "n", "l"), 12)
            self.assertEqual(asked(spiral, 10 ** 17 + 1), told)
        self.assertEqual(spiral, (5, "w", "r"))


if __name__ == "__main__":
    unittest.main()
