import unittest

from laidround.spirals.places import number_at
from laidround.spirals.runs import rays_of, row_from, run_of

from cases import Case
from laying import FEW_SPIRALS, HEADINGS, ROUNDS, SPIRALS, far_runs, lay, spots_on, stepped

RAYS = ((1, 0), (1, 1), (0, 1), (-1, 1), (-1, 0), (-1, -1), (0, -1), (1, -1))


class RunsTest(Case):
    def test_the_first_ones(self):
        spiral = (1, "e", "l")
        told = [run_of(spiral, number) for number in range(1, 11)]
        self.assertEqual(told, [
            (1, 2, "e"), (1, 2, "e"), (2, 3, "n"), (3, 5, "w"), (3, 5, "w"),
            (5, 7, "s"), (5, 7, "s"), (7, 10, "e"), (7, 10, "e"), (7, 10, "e"),
        ])
        self.assertEqual(run_of((0, "n", "r"), 2), (1, 2, "e"))

    def test_the_starts_run_is_the_first_ones(self):
        for spiral in SPIRALS:
            start, heading, turn = spiral
            self.assertEqual(run_of(spiral, start), (start, start + 1, heading))
            self.assertEqual(run_of(spiral, start + 1), (start, start + 1, heading))

    def test_against_laid(self):
        for spiral in SPIRALS:
            places, runs = lay(spiral)
            for begin, end, heading in runs:
                for number in range(begin + 1, end + 1):
                    self.assertEqual(run_of(spiral, number), (begin, end, heading))

    def test_far(self):
        for spiral in SPIRALS:
            for rounds in ROUNDS:
                for run, begin, end, heading, place in far_runs(spiral, rounds):
                    for spot in spots_on(end - begin):
                        self.assertEqual(run_of(spiral, begin + spot), (begin, end, heading))

    def test_to_the_greatest_number(self):
        for spiral in SPIRALS:
            for number in (10 ** 19, 10 ** 20 - 1, 10 ** 20):
                begin, end, heading = run_of(spiral, number)
                self.assertTrue(begin < number <= end)
                self.assertEqual(run_of(spiral, end), (begin, end, heading))
                self.assertEqual(run_of(spiral, begin + 1), (begin, end, heading))
                self.assertEqual(run_of(spiral, begin)[1], begin)
                self.assertEqual(run_of(spiral, end + 1)[0], end)

    def test_no_number_below_the_start(self):
        self.assert_no_number_below(run_of)

    def test_kinds(self):
        for spiral in SPIRALS:
            for number in (spiral[0], spiral[0] + 1, 10 ** 20):
                told = run_of(spiral, number)
                self.assertIs(type(told), tuple)
                self.assertEqual([type(part) for part in told], [int, int, str])


class RowsTest(Case):
    def test_near(self):
        spiral = (1, "e", "l")
        self.assertEqual(row_from(spiral, (-1, 1), "e", 3), (5, 4, 3))
        self.assertEqual(row_from(spiral, (-1, 1), "s", 3), (5, 6, 7))
        self.assertEqual(row_from(spiral, (0, 0), "w", 2), (1, 6))
        self.assertEqual(row_from(spiral, (1, -1), "n", 3), (9, 2, 3))

    def test_near_against_laid(self):
        for spiral in SPIRALS:
            places, runs = lay(spiral)
            numbers = {place: number for number, place in places.items()}
            for heading in HEADINGS:
                for place in ((0, 0), (2, -1), (-3, 3)):
                    row = tuple(numbers[stepped(place, heading, gone)] for gone in range(6))
                    self.assertEqual(row_from(spiral, place, heading, 6), row)

    def test_against_number_at(self):
        places = ((0, 0), (30, -30), (-7, 2), (10 ** 9, 10 ** 9), (-10 ** 9, 10 ** 9 - 20), (10 ** 9 - 30, -10 ** 9))
        for spiral in FEW_SPIRALS:
            for heading in HEADINGS:
                for place in places:
                    for many in (1, 2, 60):
                        row = tuple(number_at(spiral, stepped(place, heading, gone)) for gone in range(many))
                        self.assertEqual(row_from(spiral, place, heading, many), row)

    def test_kinds(self):
        for many in (1, 60):
            self.assert_row(row_from((-5, "w", "r"), (10 ** 9, -3), "n", many), many)


class RaysTest(Case):
    def test_told(self):
        self.assertEqual(rays_of((1, "e", "l")), (-3, -2, -1, 0, 1, 2, 3, 4))
        self.assertEqual(rays_of((0, "e", "r")), (-3, 4, 3, 2, 1, 0, -1, -2))
        self.assertEqual(rays_of((-9, "n", "l")), (3, 4, -3, -2, -1, 0, 1, 2))

    def test_near_against_laid(self):
        for spiral in SPIRALS:
            places, runs = lay(spiral)
            numbers = {place: number for number, place in places.items()}
            for (along, up), often in zip(RAYS, rays_of(spiral)):
                for times in range(9):
                    number = numbers[along * times, up * times]
                    self.assertEqual(number, spiral[0] + 4 * times * times + often * times)

    def test_against_number_at(self):
        for spiral in SPIRALS:
            for (along, up), often in zip(RAYS, rays_of(spiral)):
                for times in (0, 1, 2, 3, 50, 1000, 10 ** 6 + 1, 10 ** 9 - 1, 10 ** 9):
                    number = number_at(spiral, (along * times, up * times))
                    self.assertEqual(number, spiral[0] + 4 * times * times + often * times)

    def test_kinds(self):
        for spiral in SPIRALS:
            self.assert_row(rays_of(spiral), 8)


if __name__ == "__main__":
    unittest.main()
