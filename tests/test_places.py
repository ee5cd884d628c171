import unittest

from laidround.errors import LaidError, NoSpiral
from laidround.spirals.places import number_at, place_of, read_spiral, spiral_shown

from cases import Case
from laying import FEW_SPIRALS, SPIRALS, STEPS, far_numbers, lay

NONE = (
    "", " ", "  ", "\n", "1", "1 e", "e l", "1 l", "1 e l l", "1 e l 1", "1 1 e l", "l e 1", "e 1 l", "1 l e",
    "1  e l", "1 e  l", " 1 e l", "1 e l ", " 1 e", "1 e ", " e l", "1  l", "1el", "1 el", "1e l", "1,e,l", "1\te\tl",
    "\n1 e l", "1\n e l", "1 \ne l", "1 e\n l", "1 e \nl", "1 e l\n", "1\ne\nl", "1 e\nl", "1\ne l", "1 e l\n\n",
    "-\n1 e l", "1\n2 e l", "\n e l", "1 \n l", "1 e \n",
    "-0 e l", "00 e l", "-00 e l", "01 e l", "-01 e l", "007 e l", "0000000001 e l", "+1 e l", "+0 e l", "+ e l",
    "- e l", "-- e l", "--1 e l", "-+1 e l", "+-1 e l", "1- e l", "- 1 e l", "1-2 e l",
    "1 E l", "1 N l", "1 W r", "1 S r", "1 e L", "1 e R", "1 E L",
    "1 x l", "1 l l", "1 r r", "1 e e", "1 e x", "1 0 l", "1 e 0", "1 e -", "1 - l", "1 u l", "1 e n",
    "1 en l", "1 ee l", "1 enws l", "1 nw l", "1 e lr", "1 e ll", "1 e rl", "1 east left", "1 e left",
    "a e l", "1a e l", "a1 e l", "1_0 e l", "1.0 e l", "1. e l", ".5 e l", "1e3 e l", "0x1 e l", "1,000 e l",
    "# e l", "~ e l", "1/2 e l", "(1) e l", "'1' e l", "1: e l", "x" * 200, "1 " * 100,
)


class TextTest(Case):
    def test_written_and_read_back(self):
        for spiral in SPIRALS:
            text = spiral_shown(spiral)
            self.assertIs(type(text), str)
            self.assertEqual(text, " ".join(str(part) for part in spiral))
            self.assertEqual(read_spiral(text), spiral)

    def test_shown(self):
        self.assertEqual(spiral_shown((1, "e", "l")), "1 e l")
        self.assertEqual(spiral_shown((0, "n", "r")), "0 n r")
        self.assertEqual(spiral_shown((-12, "w", "l")), "-12 w l")
        self.assertEqual(spiral_shown((-10 ** 18, "s", "r")), "-1000000000000000000 s r")

    def test_read(self):
        for text, spiral in (
            ("1 e l", (1, "e", "l")),
            ("0 n r", (0, "n", "r")),
            ("10 w l", (10, "w", "l")),
            ("-1 s r", (-1, "s", "r")),
            ("-100 s l", (-100, "s", "l")),
            ("9876543210 e r", (9876543210, "e", "r")),
            ("1000000000000000000 e l", (10 ** 18, "e", "l")),
            ("-1000000000000000000 n r", (-10 ** 18, "n", "r")),
        ):
            self.assertEqual(read_spiral(text), spiral)
            self.assertEqual(spiral_shown(spiral), text)

    def test_kinds(self):
        spiral = read_spiral("-3 w r")
        self.assertIs(type(spiral), tuple)
        self.assertEqual([type(part) for part in spiral], [int, str, str])

    def test_none_is_refused(self):
        for text in NONE:
            with self.subTest(text=text):
                with self.assertRaises(NoSpiral) as caught:
                    read_spiral(text)
                self.assertIsInstance(caught.exception, LaidError)
                self.assertIs(type(str(caught.exception)), str)

    def test_each_wrong_sign_in_each_word_is_refused(self):
        for code in list(range(32, 127)) + [10]:
            sign = chr(code)
            for text, good in ((f"{sign} e l", "0123456789"), (f"1 {sign} l", "enws"), (f"1 e {sign}", "lr")):
                if sign in good:
                    read_spiral(text)
                else:
                    with self.assertRaises(NoSpiral):
                        read_spiral(text)


class PlacesTest(Case):
    def test_the_first_ones(self):
        spiral = (1, "e", "l")
        told = [place_of(spiral, number) for number in range(1, 12)]
        self.assertEqual(told, [
            (0, 0), (1, 0), (1, 1), (0, 1), (-1, 1), (-1, 0), (-1, -1), (0, -1), (1, -1), (2, -1), (2, 0),
        ])
        other = (0, "n", "r")
        told = [place_of(other, number) for number in range(0, 7)]
        self.assertEqual(told, [(0, 0), (0, 1), (1, 1), (1, 0), (1, -1), (0, -1), (-1, -1)])

    def test_against_laid(self):
        for spiral in SPIRALS:
            places, runs = lay(spiral)
            self.assertGreater(len(places), 400)
            for number, place in places.items():
                self.assertEqual(place_of(spiral, number), place, (spiral, number))
                self.assertEqual(number_at(spiral, place), number, (spiral, place))

    def test_far_against_laid_runs(self):
        for spiral in SPIRALS:
            for number, place in far_numbers(spiral):
                self.assertEqual(place_of(spiral, number), place, (spiral, number))
                self.assertEqual(number_at(spiral, place), number, (spiral, place))

    def test_far_places_there_and_back(self):
        sizes = (0, 1, 2, 10 ** 3, 10 ** 6 + 1, 10 ** 9 - 1, 10 ** 9)
        ends = sorted({sign * size + by for size in sizes for sign in (1, -1) for by in (-1, 0, 1)})
        places = [(along, up) for along in ends for up in ends if max(abs(along), abs(up)) <= 10 ** 9]
        for spiral in FEW_SPIRALS:
            for place in places:
                number = number_at(spiral, place)
                self.assertGreaterEqual(number, spiral[0])
                self.assertEqual(place_of(spiral, number), place)

    def test_far_numbers_there_and_back_and_one_step_on(self):
        roots = (10 ** 5, 10 ** 7 + 3, 10 ** 9, 4 * 10 ** 9 + 1, 10 ** 10 - 2)
        offsets = [root * root + by for root in roots for by in (-1, 0, 1, root - 1, root, root + 1, root // 2)]
        for spiral in FEW_SPIRALS:
            for number in [spiral[0] + offset for offset in offsets] + [10 ** 20 - 1, 10 ** 20]:
                along, up = place_of(spiral, number)
                self.assertEqual(number_at(spiral, (along, up)), number)
                beyond, above = place_of(spiral, number + 1)
                self.assertIn((beyond - along, above - up), STEPS.values())

    def test_the_same_again_whatever_is_asked_between(self):
        spiral = (5, "w", "r")
        first = place_of(spiral, 10 ** 20)
        number_at((7, "n", "l"), (3, -4))
        self.assertEqual(place_of(spiral, 10 ** 20), first)
        self.assertEqual(spiral, (5, "w", "r"))

    def test_no_number_below_the_start(self):
        self.assert_no_number_below(place_of)

    def test_kinds(self):
        for spiral in SPIRALS:
            for number in (spiral[0], spiral[0] + 1, 10 ** 20):
                self.assert_row(place_of(spiral, number), 2)
            for place in ((0, 0), (3, -4), (-10 ** 9, 10 ** 9)):
                self.assert_whole(number_at(spiral, place))


if __name__ == "__main__":
    unittest.main()
