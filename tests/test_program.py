"""What promises [2] and [3] and the interface say of the whole program."""

import importlib
import inspect
import unittest

from laidround.errors import LaidError, NoBox, NoNumber, NoSpiral
from laidround.kept import KeptMarks
from laidround.others.arms import number_by_arms, place_by_arms
from laidround.others.two import moved, same_places, turned_by
from laidround.spirals.around import corner_at, how_many_less, is_corner, neighbours, ring_ends, ring_of
from laidround.spirals.places import number_at, place_of, read_spiral, spiral_shown
from laidround.spirals.runs import rays_of, row_from, run_of
from laidround.sums.boxes import box_count, box_ends, box_sum
from laidround.sums.firsts import box_of_first, sides_of_first, sums_of_first
from laidround.sums.streets import count_so_far, first_so_far, streets_of
from laidround.whole import Desk

from cases import Case, soon
from laying import SPIRALS

INTERFACE = {
    "laidround.spirals.places": {
        "read_spiral": ["text"], "spiral_shown": ["spiral"], "place_of": ["spiral", "number"],
        "number_at": ["spiral", "place"],
    },
    "laidround.spirals.around": {
        "neighbours": ["spiral", "number"], "how_many_less": ["spiral", "number"], "ring_of": ["spiral", "number"],
        "ring_ends": ["spiral", "ring"], "corner_at": ["spiral", "place"], "is_corner": ["spiral", "number"],
    },
    "laidround.spirals.runs": {
        "run_of": ["spiral", "number"], "row_from": ["spiral", "place", "heading", "many"], "rays_of": ["spiral"],
    },
    "laidround.sums.boxes": {
        "box_sum": ["spiral", "box"], "box_ends": ["spiral", "box"], "box_count": ["spiral", "box", "number"],
    },
    "laidround.sums.firsts": {
        "sums_of_first": ["spiral", "many"], "sides_of_first": ["spiral", "many"], "box_of_first": ["spiral", "many"],
    },
    "laidround.sums.streets": {
        "streets_of": ["spiral", "number"], "count_so_far": ["spiral", "many", "streets"],
        "first_so_far": ["spiral", "streets"],
    },
    "laidround.others.arms": {
        "place_by_arms": ["spiral", "arms", "number"], "number_by_arms": ["spiral", "arms", "place"],
    },
    "laidround.others.two": {
        "moved": ["one", "other", "number"], "same_places": ["one", "other", "first", "last"],
        "turned_by": ["one", "other"],
    },
}
CLASSES = {
    ("laidround.kept", "KeptMarks"): {
        "__init__": ["self", "spiral"], "put_mark": ["self", "number"], "take_mark": ["self", "number"],
        "marks_now": ["self"], "marks_in": ["self", "box"], "marks_around": ["self", "number"],
        "nearest_mark": ["self", "place"],
    },
    ("laidround.whole", "Desk"): {"__init__": ["self"], "ask": ["self", "line"]},
}

MANY = 10 ** 18
FAR = 10 ** 9
WIDE = (-FAR, -FAR, FAR, FAR)
PLACE = (int, int)
BOX = (int, int, int, int)
OTHER = (3, "n", "r")


def handed_on(spiral):
    """Each function with what is handed in, far and wide, and the kinds of what is told."""
    number, place = 10 ** 20, (-FAR, FAR)
    return (
        (read_spiral, (spiral_shown(spiral),), (int, str, str)),
        (spiral_shown, (spiral,), str),
        (place_of, (spiral, number), PLACE),
        (number_at, (spiral, place), int),
        (neighbours, (spiral, number), (int,) * 4),
        (how_many_less, (spiral, number), PLACE),
        (ring_of, (spiral, number), int),
        (ring_ends, (spiral, 10 ** 10), PLACE),
        (ring_ends, (spiral, 0), PLACE),
        (corner_at, (spiral, 10 ** 10), int),
        (is_corner, (spiral, number), bool),
        (is_corner, (spiral, spiral[0]), bool),
        (run_of, (spiral, number), (int, int, str)),
        (row_from, (spiral, place, "s", 60), (int,) * 60),
        (rays_of, (spiral,), (int,) * 8),
        (box_sum, (spiral, WIDE), int),
        (box_sum, (spiral, (FAR - 1, -FAR, FAR, FAR)), int),
        (box_ends, (spiral, WIDE), PLACE),
        (box_count, (spiral, WIDE, number), int),
        (box_count, (spiral, WIDE, spiral[0] - 1), int),
        (sums_of_first, (spiral, MANY), PLACE),
        (sides_of_first, (spiral, MANY), PLACE),
        (sides_of_first, (spiral, 0), PLACE),
        (box_of_first, (spiral, MANY), BOX),
        (box_of_first, (spiral, 0), type(None)),
        (streets_of, (spiral, number), int),
        (count_so_far, (spiral, MANY, 2 * FAR), int),
        (count_so_far, (spiral, MANY, 12345), int),
        (first_so_far, (spiral, 2 * FAR), int),
        (place_by_arms, (spiral, (10 ** 6, 3), number), PLACE),
        (number_by_arms, (spiral, (3, 10 ** 6), place), int),
        (moved, (spiral, OTHER, number), int),
        (same_places, (spiral, spiral, number - 9999, number), (int,) * 10 ** 4),
        (same_places, (spiral, OTHER, number, number - 1), ()),
        (turned_by, (spiral, OTHER), (int, bool)),
    )


def kinds_of(told):
    return tuple(type(item) for item in told) if type(told) is tuple else type(told)


class InterfaceTest(unittest.TestCase):
    def test_functions_and_their_arguments(self):
        for module, functions in INTERFACE.items():
            for name, arguments in functions.items():
                asked = getattr(importlib.import_module(module), name)
                self.assertEqual(list(inspect.signature(asked).parameters), arguments, name)
                self.assertEqual(asked.__module__, module)

    def test_classes_and_their_methods(self):
        for (module, name), methods in CLASSES.items():
            kind = getattr(importlib.import_module(module), name)
            for method, arguments in methods.items():
                self.assertIn(method, vars(kind))
                self.assertEqual(list(inspect.signature(vars(kind)[method]).parameters), arguments, method)

    def test_each_function_is_asked_below(self):
        asked = {function.__name__ for function, handed, kinds in handed_on(SPIRALS[0])}
        self.assertEqual(asked, {name for functions in INTERFACE.values() for name in functions})


class WholeProgramTest(Case):
    def test_far_and_wide_asks_are_told_soon(self):
        for spiral in SPIRALS:
            for asked, handed, kinds in handed_on(spiral):
                with soon(2):
                    asked(*handed)

    def test_kinds_of_what_is_told(self):
        for spiral in SPIRALS:
            for asked, handed, kinds in handed_on(spiral):
                self.assertEqual(kinds_of(asked(*handed)), kinds, (asked.__name__, spiral))

    def test_the_same_asked_again_is_answered_the_same(self):
        for spiral in SPIRALS[::3]:
            asks = handed_on(spiral)
            told = [asked(*handed) for asked, handed, kinds in asks]
            for asked, handed, kinds in handed_on((7, "s", "r")):
                asked(*handed)
            again = [asked(*handed) for asked, handed, kinds in asks[::-1]]
            self.assertEqual(told, again[::-1])

    def test_nothing_handed_in_is_changed(self):
        for spiral in SPIRALS[::3]:
            for asked, handed, kinds in handed_on(spiral):
                before = repr(handed)
                asked(*handed)
                self.assertEqual(repr(handed), before)

    def test_what_is_told_may_be_handed_on(self):
        for spiral in SPIRALS:
            number = 10 ** 20
            for step in range(4):
                number = max(neighbours(spiral, number))
                self.assertEqual(number_at(spiral, place_of(spiral, number)), number)
                self.assertEqual(moved(OTHER, spiral, moved(spiral, OTHER, number)), number)
                place = place_by_arms(spiral, (5, 9), number)
                self.assertEqual(number_by_arms(spiral, (5, 9), place), number)
            corner = corner_at(spiral, 10 ** 10)
            self.assertIs(is_corner(spiral, corner), True)
            self.assertEqual(run_of(spiral, corner)[1], corner)
            first, last = ring_ends(spiral, 10 ** 10)
            self.assertEqual([ring_of(spiral, end) for end in (first - 1, first, last, last + 1)],
                             [10 ** 10 - 1, 10 ** 10, 10 ** 10, 10 ** 10 + 1])
            box = box_of_first(spiral, MANY)
            self.assertEqual(box_count(spiral, box, spiral[0] + MANY - 1), MANY)
            least, greatest = box_ends(spiral, box)
            kept = KeptMarks(spiral)
            kept.put_mark(greatest)
            self.assertEqual(kept.marks_in(box), 1)
            self.assertEqual(kept.nearest_mark(place_of(spiral, greatest)), greatest)

    def test_refusals_are_laid_errors(self):
        for asked, handed, kind in (
            (read_spiral, ("no",), NoSpiral), (place_of, ((1, "e", "l"), 0), NoNumber),
            (box_sum, ((1, "e", "l"), (1, 0, 0, 0)), NoBox), (moved, ((1, "e", "l"), OTHER, 0), NoNumber),
            (place_by_arms, ((1, "e", "l"), (2, 2), 0), NoNumber),
            (KeptMarks((1, "e", "l")).put_mark, (0,), NoNumber), (Desk().ask, ("off 5",), NoNumber),
        ):
            with self.assertRaises(LaidError) as caught:
                asked(*handed)
            self.assertIs(type(caught.exception), kind)


if __name__ == "__main__":
    unittest.main()
