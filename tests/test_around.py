import unittest

from laidround.spirals.around import corner_at, how_many_less, is_corner, neighbours, ring_ends, ring_of
from laidround.spirals.places import number_at

from cases import Case
from laying import FEW_SPIRALS, HEADINGS, ROUNDS, SPIRALS, far_numbers, far_runs, lay, spots_on, stepped

RINGS = (1, 2, 3, 10, 999, 10 ** 6, 10 ** 9, 10 ** 10 - 1, 10 ** 10)


def ring_at(place):
    return max(abs(place[0]), abs(place[1]))


class NeighboursTest(Case):
    def test_by_e_n_w_s(self):
        self.assertEqual(neighbours((1, "e", "l"), 1), (2, 4, 6, 8))
        self.assertEqual(neighbours((1, "e", "l"), 2), (11, 3, 1, 9))
        self.assertEqual(neighbours((1, "n", "r"), 1), (4, 2, 8, 6))
        self.assertEqual(neighbours((0, "w", "l"), 0), (5, 7, 1, 3))
        self.assertEqual(how_many_less((1, "e", "l"), 1), (0, 2))
        self.assertEqual(how_many_less((1, "e", "l"), 2), (1, 1))
        self.assertEqual(how_many_less((1, "e", "l"), 8), (2, 1))
        self.assertEqual(how_many_less((-4, "e", "l"), -4), (0, -3))

    def test_against_laid(self):
        for spiral in SPIRALS:
            places, runs = lay(spiral)
            numbers = {place: number for number, place in places.items()}
            for number in range(spiral[0], spiral[0] + 300):
                beside = tuple(numbers[stepped(places[number], heading)] for heading in HEADINGS)
                self.assertEqual(neighbours(spiral, number), beside)
                less = sum(1 for other in beside if other < number)
                self.assertEqual(how_many_less(spiral, number), (less, min(beside)))

    def test_far_against_number_at(self):
        for spiral in FEW_SPIRALS:
            for number, place in far_numbers(spiral):
                beside = tuple(number_at(spiral, stepped(place, heading)) for heading in HEADINGS)
                self.assertEqual(neighbours(spiral, number), beside)
                self.assertIn(number - 1, beside)
                self.assertIn(number + 1, beside)
                less = sum(1 for other in beside if other < number)
                self.assertEqual(how_many_less(spiral, number), (less, min(beside)))

    def test_no_number_below_the_start(self):
        self.assert_no_number_below(neighbours)
        self.assert_no_number_below(how_many_less)

    def test_kinds(self):
        for spiral in SPIRALS:
            for number in (spiral[0], spiral[0] + 1, 10 ** 20):
                self.assert_row(neighbours(spiral, number), 4)
                self.assert_row(how_many_less(spiral, number), 2)


class RingsTest(Case):
    def test_ring_of_against_the_place(self):
        for spiral in SPIRALS:
            places, runs = lay(spiral)
            for number, place in places.items():
                self.assertEqual(ring_of(spiral, number), ring_at(place))
        for spiral in FEW_SPIRALS:
            for number, place in far_numbers(spiral):
                self.assertEqual(ring_of(spiral, number), ring_at(place))

    def test_ring_nought(self):
        for spiral in SPIRALS:
            self.assertEqual(ring_ends(spiral, 0), (spiral[0], spiral[0]))

    def test_first_rings_against_laid(self):
        for spiral in SPIRALS:
            places, runs = lay(spiral)
            for ring in range(10):
                numbers = [number for number, place in places.items() if ring_at(place) == ring]
                self.assertEqual(ring_ends(spiral, ring), (min(numbers), max(numbers)))

    def test_far_rings(self):
        for spiral in SPIRALS:
            for ring in RINGS:
                first, last = ring_ends(spiral, ring)
                self.assertEqual(last - first + 1, 8 * ring)
                self.assertEqual(ring_ends(spiral, ring + 1)[0], last + 1)
                self.assertEqual(ring_of(spiral, first), ring)
                self.assertEqual(ring_of(spiral, last), ring)
                self.assertEqual(ring_of(spiral, first - 1), ring - 1)
                self.assertEqual(ring_of(spiral, last + 1), ring + 1)

    def test_no_number_below_the_start(self):
        self.assert_no_number_below(ring_of)

    def test_kinds(self):
        for spiral in SPIRALS:
            for ring in (0, 1, 10 ** 10):
                self.assert_row(ring_ends(spiral, ring), 2)
            for number in (spiral[0], spiral[0] + 1, 10 ** 20):
                self.assert_whole(ring_of(spiral, number))


class CornersTest(Case):
    def test_the_first_ones(self):
        self.assertEqual([corner_at((1, "e", "l"), place) for place in range(7)], [2, 3, 5, 7, 10, 13, 17])
        self.assertEqual([corner_at((-3, "s", "r"), place) for place in range(4)], [-2, -1, 1, 3])

    def test_against_the_turns_made_in_laying(self):
        for spiral in SPIRALS:
            places, runs = lay(spiral)
            corners = [end for begin, end, heading in runs]
            self.assertEqual([corner_at(spiral, place) for place in range(len(corners))], corners)
            for number in places:
                self.assertIs(is_corner(spiral, number), number in corners, (spiral, number))

    def test_the_start_is_none(self):
        for spiral in SPIRALS:
            self.assertIs(is_corner(spiral, spiral[0]), False)
            self.assertIs(is_corner(spiral, spiral[0] + 1), True)

    def test_far_corners(self):
        for spiral in FEW_SPIRALS:
            for rounds in ROUNDS:
                for run, begin, end, heading, place in far_runs(spiral, rounds):
                    self.assertEqual(corner_at(spiral, run), end)
                    for spot in spots_on(end - begin):
                        self.assertIs(is_corner(spiral, begin + spot), begin + spot == end)

    def test_corners_to_the_greatest_count(self):
        for spiral in SPIRALS:
            for place in (10 ** 3, 10 ** 6, 10 ** 9 + 1, 10 ** 10 - 1, 10 ** 10):
                corner = corner_at(spiral, place)
                # The run that ends there is the one counted so: half of its count and one long.
                self.assertEqual(corner - corner_at(spiral, place - 1), place // 2 + 1)
                self.assertIs(is_corner(spiral, corner), True)
                self.assertIs(is_corner(spiral, corner - 1), False)
                self.assertIs(is_corner(spiral, corner + 1), False)

    def test_no_number_below_the_start(self):
        self.assert_no_number_below(is_corner)

    def test_kinds(self):
        for spiral in SPIRALS:
            for place in (0, 1, 10 ** 10):
                self.assert_whole(corner_at(spiral, place))
            for number in (spiral[0], spiral[0] + 1, 10 ** 20):
                self.assertIs(type(is_corner(spiral, number)), bool)


if __name__ == "__main__":
    unittest.main()
