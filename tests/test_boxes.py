import itertools
import random
import unittest

from laidround.errors import LaidError, NoBox
from laidround.spirals.around import ring_ends
from laidround.spirals.places import number_at, place_of
from laidround.sums.boxes import box_count, box_ends, box_sum

from cases import Case, soon
from laying import FEW_SPIRALS, NEAR_SPIRALS, SPIRALS, below, lay_places

FAR = 10 ** 9
WIDEST = (-FAR, -FAR, FAR, FAR)
EDGES = (-FAR, -FAR + 1, -654321, -2, -1, 0, 1, 3, 1000, FAR - 1, FAR)
WIDE = (
    WIDEST, (0, 0, FAR, FAR), (-FAR, 0, FAR, 0), (0, -FAR, 0, FAR), (-FAR, -FAR, -1, -1), (1, -FAR, FAR, FAR),
    (-FAR, 5, 7, FAR), (-3, -FAR, FAR, -2), (10 ** 8, 10 ** 8, FAR, FAR), (-FAR, -12345, 10 ** 7, 678),
)
NO_BOXES = (
    (1, 0, 0, 0), (0, 1, 0, 0), (1, 1, 0, 0), (-1, 0, -2, 5), (-2, 4, 7, 3), (5, -6, 4, -7), (0, 5, 9, 4),
    (FAR, 0, -FAR, 0), (0, FAR, 0, -FAR), (FAR, FAR, -FAR, -FAR), (FAR, -FAR, FAR - 1, FAR),
    (-FAR, -FAR + 1, FAR, -FAR),
)


def boxes_about(size):
    """All boxes whose edges are at most so far from the middle."""
    spans = [(low, high) for low in range(-size, size + 1) for high in range(low, size + 1)]
    return [(left, low, right, high) for left, right in spans for low, high in spans]


def places_in(box):
    left, low, right, high = box
    return list(itertools.product(range(left, right + 1), range(low, high + 1)))


def size_of(box):
    left, low, right, high = box
    return (right - left + 1) * (high - low + 1)


def numbers_in(numbers, box):
    return [numbers[place] for place in places_in(box)]


def holds(box, place):
    left, low, right, high = box
    return left <= place[0] <= right and low <= place[1] <= high


def far_boxes():
    """Small boxes far out: on the lines through the middle, on the slants, beside them."""
    found = []
    for size in (1000, 10 ** 6 + 1, FAR - 9, FAR - 2):
        middles = [(size, 0), (0, size), (size, size), (size, size // 3), (size // 2, size)]
        for (along, up), side, way in itertools.product(middles, (1, -1), (1, -1)):
            for aside in (0, 4, -4):
                by = (side * along + (aside if along != size else 0), way * up + (aside if along == size else 0))
                for wide, tall in ((0, 0), (2, 0), (0, 2), (2, 2), (1, 2)):
                    box = (by[0] - wide, by[1] - tall, by[0] + wide, by[1] + tall)
                    if max(abs(edge) for edge in box) <= FAR:
                        found.append(box)
    return sorted(set(found))


def any_box(chance):
    """A box of any size."""
    reach = chance.choice((3, 20, 1000, 10 ** 6, FAR))
    alongs = sorted(chance.randint(-reach, reach) for edge in range(2))
    ups = sorted(chance.randint(-reach, reach) for edge in range(2))
    return (alongs[0], ups[0], alongs[1], ups[1])


def splits(chance, box):
    """The box in two, split somewhere along, and somewhere up."""
    left, low, right, high = box
    found = []
    if left < right:
        at = chance.choice((left, right - 1, chance.randint(left, right - 1)))
        found.append(((left, low, at, high), (at + 1, low, right, high)))
    if low < high:
        at = chance.choice((low, high - 1, chance.randint(low, high - 1)))
        found.append(((left, low, right, at), (left, at + 1, right, high)))
    return found


def split_boxes():
    chance = random.Random(11)
    return [(box, splits(chance, box)) for box in [any_box(chance) for often in range(150)] + list(WIDE)]


class SumsTest(Case):
    def test_told(self):
        spiral = (1, "e", "l")
        self.assertEqual(box_sum(spiral, (0, 0, 0, 0)), 1)
        self.assertEqual(box_sum(spiral, (-1, -1, 1, 1)), 45)
        self.assertEqual(box_sum(spiral, (0, 0, 1, 1)), 10)
        self.assertEqual(box_sum(spiral, (2, -1, 2, 0)), 21)
        self.assertEqual(box_sum((0, "n", "r"), (0, 0, 1, 1)), 6)
        self.assertEqual(box_sum((-5, "e", "l"), (-1, -1, 1, 1)), -9)

    def test_near_against_laid(self):
        for spirals, boxes in ((NEAR_SPIRALS, boxes_about(4)), (SPIRALS, boxes_about(2))):
            for spiral in spirals:
                numbers = lay_places(spiral, 24)
                for box in boxes:
                    self.assertEqual(box_sum(spiral, box), sum(numbers_in(numbers, box)), (spiral, box))

    def test_boxes_of_several_rings_against_laid(self):
        chance = random.Random(3)
        for spiral in SPIRALS:
            numbers = lay_places(spiral, 80)
            for often in range(12):
                alongs = sorted(chance.randint(-18, 18) for edge in range(2))
                ups = sorted(chance.randint(-18, 18) for edge in range(2))
                box = (alongs[0], ups[0], alongs[1], ups[1])
                self.assertEqual(box_sum(spiral, box), sum(numbers_in(numbers, box)), (spiral, box))

    def test_far_against_number_at(self):
        for spiral in FEW_SPIRALS:
            for box in far_boxes():
                numbers = [number_at(spiral, place) for place in places_in(box)]
                self.assertEqual(box_sum(spiral, box), sum(numbers), (spiral, box))

    def test_the_sum_is_that_of_the_parts(self):
        cases = split_boxes()
        for spiral in FEW_SPIRALS:
            for box, parted in cases:
                for one, other in parted:
                    self.assertEqual(box_sum(spiral, box), box_sum(spiral, one) + box_sum(spiral, other), (spiral, box))

    def test_a_wide_box_grows_by_a_row_of_places(self):
        for spiral in NEAR_SPIRALS:
            for box in WIDE:
                left, low, right, high = box
                if high - low > 2:
                    more = box_sum(spiral, box) - box_sum(spiral, (left, low, right, high - 1))
                    self.assertEqual(more, box_sum(spiral, (left, high, right, high)))

    def test_squares_of_whole_rings(self):
        for spiral in SPIRALS:
            for ring in (0, 1, 2, 3, 4, 5, 6, 50, 999, 10 ** 6 + 1, FAR - 1, FAR):
                last = ring_ends(spiral, ring)[1]
                many = (2 * ring + 1) ** 2
                told = box_sum(spiral, (-ring, -ring, ring, ring))
                self.assertEqual(told, (spiral[0] + last) * many // 2, (spiral, ring))

    def test_another_start_is_as_much_more_for_each_place(self):
        for start, heading, turn in SPIRALS:
            for box in WIDE + ((0, 0, 0, 0), (-3, 2, 5, 9)):
                more = start * size_of(box)
                self.assertEqual(box_sum((start, heading, turn), box), box_sum((0, heading, turn), box) + more)

    def test_kinds(self):
        for spiral in SPIRALS:
            for box in WIDE + ((0, 0, 0, 0), (2, 3, 2, 3)):
                self.assert_whole(box_sum(spiral, box))


class EndsTest(Case):
    def test_told(self):
        spiral = (1, "e", "l")
        self.assertEqual(box_ends(spiral, (0, 0, 0, 0)), (1, 1))
        self.assertEqual(box_ends(spiral, (-1, -1, 1, 1)), (1, 9))
        self.assertEqual(box_ends(spiral, (0, 0, 1, 1)), (1, 4))
        self.assertEqual(box_ends(spiral, (1, -1, 2, 0)), (2, 11))
        self.assertEqual(box_ends((0, "n", "r"), (1, 0, 1, 1)), (2, 3))

    def test_near_against_laid(self):
        for spirals, boxes in ((NEAR_SPIRALS, boxes_about(4)), (SPIRALS, boxes_about(2))):
            for spiral in spirals:
                numbers = lay_places(spiral, 24)
                for box in boxes:
                    within = numbers_in(numbers, box)
                    self.assertEqual(box_ends(spiral, box), (min(within), max(within)), (spiral, box))

    def test_far_against_number_at(self):
        for spiral in FEW_SPIRALS:
            for box in far_boxes():
                within = [number_at(spiral, place) for place in places_in(box)]
                self.assertEqual(box_ends(spiral, box), (min(within), max(within)), (spiral, box))

    def test_the_ends_are_those_of_the_parts(self):
        cases = split_boxes()
        for spiral in FEW_SPIRALS:
            for box, parted in cases:
                for one, other in parted:
                    ends = box_ends(spiral, one) + box_ends(spiral, other)
                    self.assertEqual(box_ends(spiral, box), (min(ends), max(ends)), (spiral, box))

    def test_the_ends_stand_in_the_box(self):
        for spiral in FEW_SPIRALS:
            for box, parted in split_boxes():
                for number in box_ends(spiral, box):
                    self.assertTrue(holds(box, place_of(spiral, number)), (spiral, box))

    def test_squares_of_whole_rings(self):
        for spiral in SPIRALS:
            for ring in (0, 1, 2, 3, 50, 999, 10 ** 6 + 1, FAR - 1, FAR):
                ends = (spiral[0], ring_ends(spiral, ring)[1])
                self.assertEqual(box_ends(spiral, (-ring, -ring, ring, ring)), ends)

    def test_kinds(self):
        for spiral in SPIRALS:
            for box in WIDE + ((0, 0, 0, 0), (2, 3, 2, 3)):
                self.assert_row(box_ends(spiral, box), 2)


class CountsTest(Case):
    def assert_grows_at(self, spiral, box, number):
        """From the number to the next one more just where the next stands in the box."""
        more = 1 if holds(box, place_of(spiral, number + 1)) else 0
        told = box_count(spiral, box, number)
        self.assertEqual(box_count(spiral, box, number + 1), told + more, (spiral, box, number))

    def test_told(self):
        spiral = (1, "e", "l")
        self.assertEqual([box_count(spiral, (0, 0, 1, 1), number) for number in range(-1, 7)], [0, 0, 1, 2, 3, 4, 4, 4])
        self.assertEqual([box_count(spiral, (-1, 0, -1, 0), number) for number in (5, 6, 7)], [0, 1, 1])
        self.assertEqual(box_count((0, "n", "r"), (0, 0, 1, 1), 0), 1)
        self.assertEqual(box_count((-5, "e", "l"), (0, 0, 1, 1), -4), 2)

    def test_near_against_laid(self):
        boxes = boxes_about(2) + [(-5, -1, 4, 3), (1, -6, 6, -2), (-6, 0, -3, 6), (-1, -6, 0, 6), (3, 3, 6, 5)]
        for spiral in SPIRALS:
            numbers = lay_places(spiral, 28)
            by_number = {number: place for place, number in numbers.items()}
            step = 1 if spiral in NEAR_SPIRALS else 23
            for box in boxes[::step]:
                many = 0
                for number in range(spiral[0], spiral[0] + 45):
                    many += 1 if holds(box, by_number[number]) else 0
                    self.assertEqual(box_count(spiral, box, number), many, (spiral, box, number))
            for box in boxes[-5:]:
                within = numbers_in(numbers, box)
                for number in range(spiral[0] - 2, spiral[0] + 180):
                    many = sum(1 for other in within if other <= number)
                    self.assertEqual(box_count(spiral, box, number), many, (spiral, box, number))

    def test_none_below_the_start(self):
        for spiral in SPIRALS:
            for box in WIDE + ((0, 0, 0, 0), (-1, -1, 1, 1), (4, 5, 6, 7)):
                for number in below(spiral):
                    self.assertEqual(box_count(spiral, box, number), 0)

    def test_all_places_to_a_great_number(self):
        for spiral in SPIRALS:
            for box in WIDE + tuple(far_boxes()[::17]) + ((0, 0, 0, 0), (-1, -1, 1, 1), (4, 5, 6, 7)):
                for number in (10 ** 20 - 1, 10 ** 20, box_ends(spiral, box)[1]):
                    self.assertEqual(box_count(spiral, box, number), size_of(box))

    def test_from_the_least_on_to_the_greatest(self):
        for spiral in FEW_SPIRALS:
            for box, parted in split_boxes():
                least, greatest = box_ends(spiral, box)
                self.assertEqual(box_count(spiral, box, least - 1), 0)
                self.assertEqual(box_count(spiral, box, least), 1)
                self.assertEqual(box_count(spiral, box, greatest - 1), size_of(box) - 1)
                self.assertEqual(box_count(spiral, box, greatest), size_of(box))

    def test_one_more_just_where_the_next_stands_in_the_box(self):
        boxes = list(WIDE) + far_boxes()[::5] + [box for box, parted in split_boxes()[::4]]
        for spiral in FEW_SPIRALS:
            for box in boxes:
                left, low, right, high = box
                for place in ((left, low), (left, high), (right, low), (right, high), (left, (low + high) // 2)):
                    corner = number_at(spiral, place)
                    for number in (corner - 2, corner - 1, corner, corner + 1):
                        if number >= spiral[0]:
                            self.assert_grows_at(spiral, box, number)

    def test_one_more_at_the_corners_of_rings(self):
        for spiral in NEAR_SPIRALS:
            for box in WIDE:
                for ring in (1, 2, 5, 1000, 10 ** 8, FAR - 1, FAR):
                    for along, up in itertools.product((ring, -ring), (ring, -ring)):
                        for number in (number_at(spiral, (along, up)) - 1, number_at(spiral, (along, up))):
                            self.assert_grows_at(spiral, box, number)

    def test_the_count_is_that_of_the_parts(self):
        chance = random.Random(7)
        cases = split_boxes()
        for spiral in FEW_SPIRALS:
            for box, parted in cases:
                least, greatest = box_ends(spiral, box)
                number = chance.randint(least, greatest)
                for one, other in parted:
                    many = box_count(spiral, one, number) + box_count(spiral, other, number)
                    self.assertEqual(box_count(spiral, box, number), many, (spiral, box, number))

    def test_all_numbers_to_one_in_the_widest_box(self):
        for spiral in SPIRALS:
            for many in (1, 2, 3, 10, 10 ** 6 + 1, 10 ** 12 - 1, 10 ** 18, (2 * FAR + 1) ** 2 - 1, (2 * FAR + 1) ** 2):
                self.assertEqual(box_count(spiral, WIDEST, spiral[0] + many - 1), many)
            self.assertEqual(box_count(spiral, WIDEST, spiral[0] + (2 * FAR + 1) ** 2), (2 * FAR + 1) ** 2)

    def test_kinds(self):
        for spiral in SPIRALS:
            for box in WIDE + ((0, 0, 0, 0), (2, 3, 2, 3)):
                for number in (-10 ** 20, spiral[0] - 1, spiral[0], spiral[0] + 9, 10 ** 20):
                    self.assert_whole(box_count(spiral, box, number))


class NoBoxTest(Case):
    def assert_no_box(self, asked, *handed):
        with self.assertRaises(NoBox) as caught:
            asked(*handed)
        self.assertIsInstance(caught.exception, LaidError)
        self.assertIs(type(str(caught.exception)), str)

    def test_refused(self):
        for spiral in SPIRALS:
            for box in NO_BOXES:
                self.assert_no_box(box_sum, spiral, box)
                self.assert_no_box(box_ends, spiral, box)
                for number in below(spiral) + (spiral[0], spiral[0] + 1, spiral[0] + 100, 10 ** 20):
                    self.assert_no_box(box_count, spiral, box, number)

    def test_one_place_or_one_row_is_a_box(self):
        for spiral in SPIRALS:
            for along, up in ((0, 0), (1, 0), (-3, 7), (FAR, -FAR), (-FAR, FAR), (5, 5)):
                number = number_at(spiral, (along, up))
                self.assertEqual(box_sum(spiral, (along, up, along, up)), number)
                self.assertEqual(box_ends(spiral, (along, up, along, up)), (number, number))
                self.assertEqual(box_count(spiral, (along, up, along, up), number), 1)
                self.assertEqual(box_count(spiral, (along, up, along, up), number - 1), 0)
            self.assertEqual(box_count(spiral, (-FAR, 3, FAR, 3), 10 ** 20), 2 * FAR + 1)
            self.assertEqual(box_count(spiral, (-4, -FAR, -4, FAR), 10 ** 20), 2 * FAR + 1)


class WholeTest(Case):
    def test_wide_and_far_asks_are_told_soon(self):
        with soon():
            for spiral in SPIRALS:
                for box in WIDE + ((FAR, FAR, FAR, FAR), (-FAR, FAR - 1, -FAR, FAR)):
                    box_sum(spiral, box)
                    box_ends(spiral, box)
                    for number in (spiral[0] + 10 ** 18, 10 ** 20):
                        box_count(spiral, box, number)

    def test_all_edges_are_told_soon_and_fit(self):
        spans = [(low, high) for low in EDGES for high in EDGES if low <= high]
        with soon(30):
            for (left, right), (low, high) in itertools.product(spans[::2], spans[::3]):
                box = (left, low, right, high)
                least, greatest = box_ends((0, "w", "r"), box)
                many = size_of(box)
                told = box_sum((0, "w", "r"), box)
                # So many different numbers from the least to the greatest have a sum between these two.
                self.assertGreaterEqual(told, least * many + many * (many - 1) // 2)
                self.assertLessEqual(told, greatest * many - many * (many - 1) // 2)

    def test_the_same_again_whatever_is_asked_between(self):
        spiral = (5, "w", "r")
        box = (-7, -FAR, 10 ** 6, 3)
        asks = (lambda: box_sum(spiral, box), lambda: box_ends(spiral, box), lambda: box_count(spiral, box, 10 ** 12))
        told = [ask() for ask in asks]
        box_sum((7, "n", "l"), (0, 0, 9, 9))
        self.assertEqual([ask() for ask in asks], told)
        self.assertEqual((spiral, box), ((5, "w", "r"), (-7, -FAR, 10 ** 6, 3)))


if __name__ == "__main__":
    unittest.main()
