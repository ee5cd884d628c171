import itertools
import random
import unittest

from laidround.errors import LaidError, NoBox, NoNumber
from laidround.kept import KeptMarks
from laidround.spirals.places import number_at, place_of

from cases import Case, soon
from laying import FEW_SPIRALS, NEAR_SPIRALS, SPIRALS, far_numbers, lay, lay_places

FAR = 10 ** 9
EIGHT = tuple((east, north) for east in (-1, 0, 1) for north in (-1, 0, 1) if (east, north) != (0, 0))
NO_BOXES = (
    (1, 0, 0, 0), (0, 1, 0, 0), (1, 1, 0, 0), (5, -3, 4, 9), (-3, 5, 9, 4), (FAR, 0, -FAR, 0), (0, FAR, 0, -FAR),
    (-1, 0, -2, 0), (0, -1, 0, -2),
)


def kept_of(spiral, numbers):
    kept = KeptMarks(spiral)
    for number in numbers:
        kept.put_mark(number)
    return kept


def shuffled(numbers, seed=5):
    numbers = list(numbers)
    random.Random(seed).shuffle(numbers)
    return numbers


def count_in(box, places):
    left, low, right, high = box
    return len([1 for along, up in places if left <= along <= right and low <= up <= high])


def nearest_of(place, places):
    """The number of the nearest place, of those that are told by their numbers."""
    if not places:
        return None
    apart = {number: abs(at[0] - place[0]) + abs(at[1] - place[1]) for number, at in places.items()}
    least = min(apart.values())
    return min(number for number in apart if apart[number] == least)


def all_told(kept, start):
    """What is told at once of marks about the middle."""
    boxes = ((0, 0, 0, 0), (-3, -3, 3, 3), (-9, 0, 9, 9), (0, -9, 2, 9), (-FAR, -FAR, FAR, FAR))
    places = ((0, 0), (1, -2), (-7, 3), (FAR, -FAR), (-FAR, 5))
    return (
        kept.marks_now(),
        [kept.marks_in(box) for box in boxes],
        [kept.marks_around(start + more) for more in range(0, 90)],
        [kept.nearest_mark(place) for place in places],
    )


class Kept(Case):
    def refused(self, asked, *handed):
        """The number that a NoNumber keeps."""
        with self.assertRaises(NoNumber) as caught:
            asked(*handed)
        self.assertIsInstance(caught.exception, LaidError)
        self.assert_whole(caught.exception.number)
        return caught.exception.number


class DeedsTest(Kept):
    def test_told(self):
        kept = KeptMarks((1, "e", "l"))
        self.assertEqual(kept.marks_now(), ())
        for number in (10, 2, 5):
            self.assertIsNone(kept.put_mark(number))
        self.assertEqual(kept.marks_now(), (2, 5, 10))
        self.assertIsNone(kept.take_mark(5))
        self.assertEqual(kept.marks_now(), (2, 10))
        self.assertEqual(kept.marks_in((0, -1, 2, 0)), 2)
        self.assertEqual(kept.marks_around(1), (2,))
        self.assertEqual(kept.marks_around(2), (10,))
        self.assertEqual(kept.nearest_mark((5, 5)), 2)
        self.assertEqual(kept.nearest_mark((5, -5)), 10)

    def test_rising_whatever_comes_first(self):
        for spiral in SPIRALS:
            start = spiral[0]
            numbers = [start, start + 1, start + 9, start + 10, start + 100, start + 99, start + 10 ** 12, 10 ** 20]
            for order in (numbers, numbers[::-1], shuffled(numbers), shuffled(numbers, 6)):
                self.assertEqual(kept_of(spiral, order).marks_now(), tuple(sorted(numbers)))

    def test_no_number_below_the_start_is_marked(self):
        self.assert_no_number_below(lambda spiral, number: KeptMarks(spiral).put_mark(number))

    def test_none_is_marked_twice(self):
        for spiral in SPIRALS:
            for number in (spiral[0], spiral[0] + 1, spiral[0] + 77, 10 ** 20):
                kept = kept_of(spiral, [number])
                self.assertEqual(self.refused(kept.put_mark, number), number)
                self.assertEqual(kept.marks_now(), (number,))
                kept.take_mark(number)
                kept.put_mark(number)
                self.assertEqual(self.refused(kept.put_mark, number), number)

    def test_none_is_taken_off_that_is_not_marked(self):
        for spiral in SPIRALS:
            start = spiral[0]
            kept = KeptMarks(spiral)
            for number in (start, start + 1, start - 1, 10 ** 20, -10 ** 20):
                self.assertEqual(self.refused(kept.take_mark, number), number)
            kept.put_mark(start + 3)
            for number in (start + 2, start + 4, start, start - 3):
                self.assertEqual(self.refused(kept.take_mark, number), number)
            kept.take_mark(start + 3)
            self.assertEqual(self.refused(kept.take_mark, start + 3), start + 3)
            self.assertEqual(kept.marks_now(), ())

    def test_what_is_refused_changes_nothing(self):
        for spiral in FEW_SPIRALS:
            start = spiral[0]
            numbers = [start + more for more in (0, 3, 4, 17, 30, 55)]
            kept = kept_of(spiral, numbers)
            told = all_told(kept, start)
            for number in numbers + [start - 1, start - 10 ** 9]:
                self.refused(kept.put_mark, number)
            for number in (start + 1, start + 5, start - 1, 10 ** 20):
                self.refused(kept.take_mark, number)
            self.refused(kept.marks_around, start - 1)
            for box in NO_BOXES:
                with self.assertRaises(NoBox):
                    kept.marks_in(box)
            self.assertEqual(all_told(kept, start), told)


class BoxTest(Kept):
    def test_each_box_about_the_middle_against_laid(self):
        edges = range(-3, 4)
        for spiral in NEAR_SPIRALS:
            places, runs = lay(spiral, 12)
            marked = [number for number in places if number * number % 7 in (1, 2)]
            kept = kept_of(spiral, shuffled(marked))
            stand = [places[number] for number in marked]
            for box in itertools.product(edges, repeat=4):
                left, low, right, high = box
                if left <= right and low <= high:
                    self.assertEqual(kept.marks_in(box), count_in(box, stand), (spiral, box))

    def test_boxes_of_one_place(self):
        for spiral in SPIRALS:
            places, runs = lay(spiral, 10)
            marked = list(places)[::3]
            kept = kept_of(spiral, marked)
            for number, (along, up) in places.items():
                self.assertEqual(kept.marks_in((along, up, along, up)), 1 if number in marked else 0)

    def test_far_boxes(self):
        for spiral in FEW_SPIRALS:
            places = {number: place for number, place in far_numbers(spiral)[::25]}
            kept = kept_of(spiral, shuffled(places))
            for box in (
                (-FAR, -FAR, FAR, FAR), (0, 0, FAR, FAR), (-FAR, -FAR, 0, 0), (-FAR, 1, -1, FAR), (FAR, -FAR, FAR, FAR),
                (-10 ** 6, -10 ** 6, 10 ** 6, 10 ** 6), (-5, -5, 5, 5), (1, -FAR, FAR, -1), (-1001, -FAR, -1000, FAR),
            ):
                self.assertEqual(kept.marks_in(box), count_in(box, places.values()), (spiral, box))
            for along, up in places.values():
                for box in ((along, up, along, up), (along, up, along + 1, up + 1), (along - 1, up - 1, along, up)):
                    self.assertEqual(kept.marks_in(box), count_in(box, places.values()))

    def test_none_of_no_marks(self):
        for spiral in SPIRALS:
            self.assertEqual(KeptMarks(spiral).marks_in((-FAR, -FAR, FAR, FAR)), 0)

    def test_no_box_with_and_without_marks(self):
        for spiral in SPIRALS:
            for kept in (KeptMarks(spiral), kept_of(spiral, [spiral[0], spiral[0] + 5])):
                for box in NO_BOXES:
                    with self.assertRaises(NoBox) as caught:
                        kept.marks_in(box)
                    self.assertIsInstance(caught.exception, LaidError)


class AroundTest(Kept):
    def around(self, place, numbers, marked):
        beside = [numbers[(place[0] + east, place[1] + north)] for east, north in EIGHT]
        return tuple(sorted(number for number in beside if number in marked))

    def test_against_laid(self):
        for spiral in SPIRALS:
            numbers = lay_places(spiral, 24)
            places, runs = lay(spiral, 14)
            start = spiral[0]
            for marked in (
                {start}, {start, start + 1, start + 2}, set(places),
                {number for number in numbers.values() if number % 3},
            ):
                kept = kept_of(spiral, shuffled(marked))
                for number, place in places.items():
                    told = kept.marks_around(number)
                    self.assertEqual(told, self.around(place, numbers, marked), (spiral, number))

    def test_all_eight_and_never_itself(self):
        for spiral in SPIRALS:
            for number in (spiral[0], spiral[0] + 1, spiral[0] + 12, spiral[0] + 10 ** 12, 10 ** 20):
                along, up = place_of(spiral, number)
                eight = [number_at(spiral, (along + east, up + north)) for east, north in EIGHT]
                kept = kept_of(spiral, shuffled(eight))
                self.assertEqual(kept.marks_around(number), tuple(sorted(eight)))
                kept.put_mark(number)
                self.assertEqual(kept.marks_around(number), tuple(sorted(eight)))
                for other in eight:
                    kept.take_mark(other)
                self.assertEqual(kept.marks_around(number), ())

    def test_none_further_than_one_step(self):
        for spiral in SPIRALS:
            for along, up in ((0, 0), (3, -2), (-10 ** 6, 10 ** 6), (7, -FAR + 2)):
                further = [
                    number_at(spiral, (along + east, up + north)) for east in range(-2, 3) for north in range(-2, 3)
                    if max(abs(east), abs(north)) == 2
                ]
                kept = kept_of(spiral, further)
                self.assertEqual(kept.marks_around(number_at(spiral, (along, up))), ())

    def test_no_number_below_the_start(self):
        self.assert_no_number_below(lambda spiral, number: KeptMarks(spiral).marks_around(number))
        self.assert_no_number_below(lambda spiral, number: kept_of(spiral, [spiral[0]]).marks_around(number))


class NearestTest(Kept):
    def test_none_of_none(self):
        for spiral in SPIRALS:
            kept = KeptMarks(spiral)
            self.assertIsNone(kept.nearest_mark((0, 0)))
            kept.put_mark(spiral[0])
            self.assertEqual(kept.nearest_mark((0, 0)), spiral[0])
            kept.take_mark(spiral[0])
            self.assertIsNone(kept.nearest_mark((0, 0)))
            self.assertIsNone(kept.nearest_mark((FAR, -FAR)))

    def test_against_laid(self):
        for spiral in FEW_SPIRALS:
            places, runs = lay(spiral, 16)
            for seed in range(6):
                marked = {number: places[number] for number in random.Random(seed).sample(sorted(places), 3 + 2 * seed)}
                kept = kept_of(spiral, marked)
                for place in itertools.product(range(-6, 7), repeat=2):
                    self.assertEqual(kept.nearest_mark(place), nearest_of(place, marked), (spiral, seed, place))

    def test_of_several_the_least(self):
        for spiral in SPIRALS:
            for along, up in ((0, 0), (4, -4), (-10 ** 6, 12), (FAR - 5, FAR - 5)):
                for far in (1, 2, 3):
                    ring = [
                        (along + east, up + north) for east in range(-far, far + 1) for north in range(-far, far + 1)
                        if abs(east) + abs(north) == far
                    ]
                    numbers = [number_at(spiral, place) for place in ring]
                    for order in (numbers, numbers[::-1], sorted(numbers), sorted(numbers)[::-1]):
                        self.assertEqual(kept_of(spiral, order).nearest_mark((along, up)), min(numbers))

    def test_by_streets_and_not_by_rings(self):
        for spiral in SPIRALS:
            aslant, straight = number_at(spiral, (2, 2)), number_at(spiral, (3, 0))
            self.assertEqual(kept_of(spiral, [aslant, straight]).nearest_mark((0, 0)), straight)
            self.assertEqual(kept_of(spiral, [straight, aslant]).nearest_mark((0, 0)), straight)

    def test_far(self):
        for spiral in FEW_SPIRALS:
            places = {number: place for number, place in far_numbers(spiral)[::31]}
            kept = kept_of(spiral, shuffled(places))
            asked = list(places.values()) + [(FAR, FAR), (-FAR, FAR), (0, -FAR), (FAR, 3), (-FAR, -FAR)]
            for place in asked:
                self.assertEqual(kept.nearest_mark(place), nearest_of(place, places), (spiral, place))


class WholeTest(Kept):
    def test_as_made_afresh_behind_any_deeds(self):
        for seed, spiral in enumerate(SPIRALS[::5]):
            chance = random.Random(seed)
            start = spiral[0]
            kept, marked = KeptMarks(spiral), set()
            for deed in range(300):
                number = start + chance.randrange(-2, 60)
                if chance.random() < 0.55:
                    if number < start or number in marked:
                        self.assertEqual(self.refused(kept.put_mark, number), number)
                    else:
                        self.assertIsNone(kept.put_mark(number))
                        marked.add(number)
                elif number in marked:
                    self.assertIsNone(kept.take_mark(number))
                    marked.remove(number)
                else:
                    self.assertEqual(self.refused(kept.take_mark, number), number)
                self.assertEqual(kept.marks_now(), tuple(sorted(marked)))
                if deed % 10 == 9:
                    afresh = kept_of(spiral, shuffled(sorted(marked), deed))
                    self.assertEqual(all_told(kept, start), all_told(afresh, start), (spiral, deed))

    def test_three_hundred_marks_far_out_are_told_soon(self):
        with soon():
            for spiral in FEW_SPIRALS:
                kept = kept_of(spiral, range(10 ** 20 - 299, 10 ** 20 + 1))
                for number in range(10 ** 20 - 299, 10 ** 20 - 200):
                    kept.marks_in((-FAR, -FAR, FAR, FAR))
                    kept.marks_around(number)
                    kept.nearest_mark((FAR, -FAR))

    def test_kinds(self):
        for spiral in SPIRALS:
            start = spiral[0]
            kept = KeptMarks(spiral)
            self.assert_row(kept.marks_now(), 0)
            self.assert_row(kept.marks_around(start), 0)
            self.assert_whole(kept.marks_in((0, 0, 0, 0)))
            kept = kept_of(spiral, [start, start + 1, start + 2])
            self.assert_row(kept.marks_now(), 3)
            self.assert_row(kept.marks_around(start), 2)
            self.assert_whole(kept.marks_in((0, 0, 0, 0)))
            self.assert_whole(kept.nearest_mark((4, 4)))

    def test_what_was_told_stays(self):
        kept = kept_of((1, "e", "l"), [1, 2, 3])
        now, around = kept.marks_now(), kept.marks_around(2)
        kept.put_mark(4)
        kept.take_mark(1)
        self.assertEqual(now, (1, 2, 3))
        self.assertEqual(around, (1, 3))
        self.assertEqual(kept.marks_now(), (2, 3, 4))

    def test_nothing_handed_in_is_changed(self):
        spiral, box, place = (1, "e", "l"), (-2, -2, 2, 2), (3, -3)
        kept = KeptMarks(spiral)
        kept.put_mark(5)
        kept.marks_in(box)
        kept.nearest_mark(place)
        self.assertEqual((spiral, box, place), ((1, "e", "l"), (-2, -2, 2, 2), (3, -3)))

    def test_two_have_nothing_in_common(self):
        for spiral, another in (((1, "e", "l"), (1, "e", "l")), ((1, "e", "l"), (0, "n", "r"))):
            one, other = KeptMarks(spiral), KeptMarks(another)
            one.put_mark(5)
            self.assertEqual(other.marks_now(), ())
            self.assertIsNone(other.nearest_mark((0, 0)))
            other.put_mark(5)
            other.put_mark(6)
            one.take_mark(5)
            self.assertEqual((one.marks_now(), other.marks_now()), ((), (5, 6)))

    def test_each_method_stands_in_the_class_itself(self):
        for name in ("put_mark", "take_mark", "marks_now", "marks_in", "marks_around", "nearest_mark"):
            self.assertIn(name, vars(KeptMarks))

    def test_the_same_again(self):
        kept = kept_of((-4, "s", "r"), [0, 3, 9, 40])
        self.assertEqual(all_told(kept, -4), all_told(kept, -4))


if __name__ == "__main__":
    unittest.main()
