import random
import unittest

from laidround.errors import LaidError, NoAsk, NoBox, NoNumber, NoSpiral
from laidround.kept import KeptMarks
from laidround.spirals.around import neighbours, ring_of
from laidround.spirals.places import number_at, place_of, spiral_shown
from laidround.spirals.runs import run_of
from laidround.sums.boxes import box_sum
from laidround.sums.streets import streets_of
from laidround.whole import Desk

from cases import Case, soon
from laying import FEW_SPIRALS, SPIRALS, far_numbers, lay

FAR = 10 ** 9
MOST = 10 ** 20 - 1
# Each word with how many numbers stand behind it.
OF_NUMBER = ("mark", "off", "where", "around", "ring", "run", "far")
OF_PLACE = ("at", "near")
OF_BOX = ("sum", "within")
ALONE = ("show", "marks")
WORDS = {
    **dict.fromkeys(ALONE, 0), **dict.fromkeys(OF_NUMBER, 1), **dict.fromkeys(OF_PLACE, 2), **dict.fromkeys(OF_BOX, 4),
}
NO_NUMBERS = (
    "-0", "00", "01", "-01", "007", "+1", "+0", "-", "--1", "+", "", "a", "1a", "a1", "1.0", "1.", "1e3", "0x1", "1_0",
    "1,0", "1\n", "\n1", "\n", "-\n1", "1-", "one", "none", "e", "~", "#", "!", "0-", "-00", "1\n2",
    "123456789012345678901",
    "-123456789012345678901", "100000000000000000000", "-100000000000000000000", "000000000000000000001", "9" * 150,
)
NO_SPIRALS = (
    "", " ", "1", "1 e", "e l", "1 e l ", " 1 e l", "1  e l", "1 e  l", "1 e l l", "1 e l\n", "\n1 e l", "1\ne l",
    "-0 e l",
    "01 e l", "+1 e l", "00 e l", "1 E l", "1 e L", "1 x l", "1 e x", "1 l e", "a e l", "- e l", "1 ee l", "1 e lr",
    "spiral 1 e l", "show", "\n", "  ", "1,e,l", "1 e l 1",
)
OTHER_LINES = (
    "", " ", "  ", "\n", "spiral", "spiral\n", "spiral\n1 e l", "spirals 1 e l", "Spiral 1 e l", "SPIRAL 1 e l",
    " spiral 1 e l", "spiral1 e l", "spiral-1 e l", "\nspiral 1 e l",
    "Show", "SHOW", "show ", " show", "show\n", "\nshow", "show 1", "show show", "show 1 e l", "shown", "sho", "s",
    "marks ", " marks", "marks\n", "marks 1", "Marks", "MARKS", "mark", "mark ", "mark\n", "mark\n5", "mark5",
    "off", "off ", "Off 5", "of 5", "off5",
    "at", "at ", "at 0", "at 0 ", "at  0 0", "at 0  0", "at 0 0 ", " at 0 0", "at 0 0\n", "at 0\n0", "at 0 0 0",
    "at 0,0", "at 0\n 0",
    "At 0 0", "AT 0 0", "at\n0 0", "at (0, 0)", "at none 0",
    "where", "where ", "where 1 2", "where  1", "where 1 ", "where 1\n", "Where 1", "where\n1", "where 0 0",
    "around", "around ", "around 1 2", "ring", "ring ", "ring 1 1", "run", "run ", "run 1 2", "run 1 2 e",
    "far", "far ", "far 1 2",
    "sum", "sum ", "sum 0", "sum 0 0", "sum 0 0 0", "sum 0 0 0 ", "sum 0 0 0 0 0", "sum  0 0 0 0", "sum 0 0  0 0",
    "sum 0 0 0 0 ",
    "sum 0 0 0 0\n", "Sum 0 0 0 0", "sum 0 0 0 x",
    "within", "within ", "within 0", "within 0 0 0", "within 0 0 0 0 0", "within 0  0 0 0", "within 0 0 0 0 ",
    "near", "near ", "near 0", "near 0 0 0", "near  0 0", "near 0 0 ", "near 0 0\n", "Near 0 0",
    "5", "0", "-1", "1 e l", "none", "help", "count 5", "corner 5", "moved 5", "box 0 0 0 0", "x" * 200, " " * 200,
)
# What the parts refuse behind the first spiral, 1 e l.
NO_BOXES = ("1 0 0 0", "0 1 0 0", "1000000000 0 -1000000000 0", "0 5 0 4", "-1 -1 -2 -2")


def written(items):
    return " ".join(str(item) for item in items)


def lines_told(desk):
    """All that a desk tells without a change."""
    lines = ["show", "marks", "near 0 0", "near -7 4", "within -3 -3 3 3", "within -1000000000 0 1000000000 1000000000"]
    return [desk.ask(line) for line in lines]


class Desks(Case):
    def refused(self, desk, line, kind):
        """The refusal; nothing has changed by it."""
        before = lines_told(desk)
        with self.assertRaises(LaidError, msg=repr(line)) as caught:
            desk.ask(line)
        self.assertIs(type(caught.exception), kind, line)
        self.assertEqual(lines_told(desk), before, line)
        return caught.exception

    def refused_number(self, desk, line, number):
        refusal = self.refused(desk, line, NoNumber)
        self.assertEqual(refusal.number, number, line)
        self.assert_whole(refusal.number)

    def desk_of(self, spiral, marks=()):
        desk = Desk()
        self.assertEqual(desk.ask(f"spiral {spiral_shown(spiral)}"), [])
        for number in marks:
            self.assertEqual(desk.ask(f"mark {number}"), [])
        return desk

    def asked(self, desk, line, told):
        answer = desk.ask(line)
        self.assertIs(type(answer), list, line)
        for text in answer:
            self.assertIs(type(text), str, line)
        self.assertEqual(answer, told, line)


class LinesTest(Desks):
    def test_told(self):
        desk = Desk()
        for line, told in (
            ("show", ["1 e l"]), ("marks", []), ("near 0 0", ["none"]), ("within -9 -9 9 9", ["0"]),
            ("at 2 -1", ["10"]), ("at 0 0", ["1"]), ("where 10", ["2 -1"]), ("where 1", ["0 0"]),
            ("around 2", ["11 3 1 9"]), ("ring 10", ["2"]), ("ring 1", ["0"]), ("run 4", ["3 5 w"]),
            ("run 1", ["1 2 e"]),
            ("sum -1 -1 1 1", ["45"]), ("sum 0 0 0 0", ["1"]), ("far 10", ["3"]), ("far 1", ["0"]),
            ("mark 5", []), ("mark 2", []), ("mark 10", []), ("marks", ["2 5 10"]), ("within 0 -1 2 0", ["2"]),
            ("near 5 5", ["2"]), ("near -5 5", ["5"]), ("off 2", []), ("marks", ["5 10"]), ("near 5 -5", ["10"]),
            ("off 5", []), ("off 10", []), ("marks", []), ("near 5 5", ["none"]),
            ("mark 7", []), ("marks", ["7"]), ("spiral -3 n r", []), ("show", ["-3 n r"]), ("marks", []),
            ("where -3", ["0 0"]), ("where -2", ["0 1"]), ("where -1", ["1 1"]), ("at 0 -1", ["2"]), ("mark -3", []),
            ("mark 0", []), ("marks", ["-3 0"]), ("around -3", ["0 -2 4 2"]), ("run -2", ["-3 -2 n"]),
            ("sum -1 -1 1 1", ["9"]), ("sum 0 0 0 1", ["-5"]), ("spiral -3 n r", []), ("marks", []),
        ):
            self.asked(desk, line, told)

    def test_each_line_as_the_parts_tell(self):
        for spiral in SPIRALS:
            desk = self.desk_of(spiral)
            self.asked(desk, "show", [spiral_shown(spiral)])
            places, runs = lay(spiral, 12)
            more = far_numbers(spiral)[::40]
            for number, place in list(places.items()) + [pair for pair in more if pair[0] <= MOST]:
                self.asked(desk, f"where {number}", [written(place)])
                self.asked(desk, f"around {number}", [written(neighbours(spiral, number))])
                self.asked(desk, f"ring {number}", [str(max(abs(place[0]), abs(place[1])))])
                self.asked(desk, f"run {number}", [written(run_of(spiral, number))])
                self.asked(desk, f"far {number}", [str(abs(place[0]) + abs(place[1]))])
                if max(abs(place[0]), abs(place[1])) <= FAR:
                    self.asked(desk, f"at {written(place)}", [str(number)])
            for box in ((0, 0, 0, 0), (-3, -2, 4, 5), (-FAR, -FAR, FAR, FAR), (FAR, -FAR, FAR, -FAR), (7, -FAR, 9, 12)):
                self.asked(desk, f"sum {written(box)}", [str(box_sum(spiral, box))])

    def test_marks_as_kept_marks_tell(self):
        for spiral in SPIRALS:
            start = spiral[0]
            marks = [start + more for more in (30, 2, 0, 77, 5, 4, 400)] + [MOST]
            desk, kept = self.desk_of(spiral, marks), KeptMarks(spiral)
            for number in marks:
                kept.put_mark(number)
            self.asked(desk, "marks", [written(sorted(marks))])
            for box in ((0, 0, 0, 0), (-3, -2, 4, 5), (-FAR, -FAR, FAR, FAR), (-2, 1, 2, 9)):
                self.asked(desk, f"within {written(box)}", [str(kept.marks_in(box))])
            for place in ((0, 0), (5, 5), (-5, 4), (FAR, -FAR), (-FAR, -FAR)):
                self.asked(desk, f"near {written(place)}", [str(kept.nearest_mark(place))])

    def test_the_furthest_and_the_greatest(self):
        for spiral in SPIRALS:
            desk = self.desk_of(spiral)
            self.asked(desk, f"where {MOST}", [written(place_of(spiral, MOST))])
            self.asked(desk, f"ring {MOST}", [str(ring_of(spiral, MOST))])
            self.asked(desk, f"far {MOST}", [str(streets_of(spiral, MOST))])
            for place in ((FAR, FAR), (-FAR, FAR), (FAR, -FAR), (-FAR, -FAR)):
                self.asked(desk, f"at {written(place)}", [str(number_at(spiral, place))])
            self.asked(desk, f"mark {MOST}", [])
            self.asked(desk, "marks", [str(MOST)])
            self.asked(desk, f"near {FAR} {-FAR}", [str(MOST)])
            self.asked(desk, f"off {MOST}", [])


class SpiralTest(Desks):
    def test_each_spiral_is_read_and_shown(self):
        desk = Desk()
        for spiral in SPIRALS:
            desk.ask(f"spiral {spiral_shown(spiral)}")
            self.asked(desk, "show", [spiral_shown(spiral)])
            self.asked(desk, f"where {spiral[0]}", ["0 0"])

    def test_the_marks_go_also_by_the_same_spiral(self):
        for text in ("1 e l", "2 e l", "1 w l", "1 e r"):
            desk = self.desk_of((1, "e", "l"), [3, 4])
            self.asked(desk, f"spiral {text}", [])
            self.asked(desk, "marks", [])
            self.asked(desk, "near 0 0", ["none"])
            self.asked(desk, "within -9 -9 9 9", ["0"])
            self.refused_number(desk, "off 3", 3)
            self.asked(desk, "mark 3", [])

    def test_no_spiral_changes_nothing(self):
        desk = self.desk_of((-5, "w", "r"), [0, 7])
        for text in NO_SPIRALS:
            self.refused(desk, f"spiral {text}", NoSpiral)
        self.asked(desk, "show", ["-5 w r"])
        self.asked(desk, "marks", ["0 7"])

    def test_without_a_blank_it_is_another_line(self):
        desk = self.desk_of((-5, "w", "r"), [0, 7])
        self.refused(desk, "spiral", NoAsk)
        self.refused(desk, "spiral ", NoSpiral)
        self.refused(desk, "spiral\n", NoAsk)
        self.refused(desk, "spiral \n", NoSpiral)


class NoAskTest(Desks):
    def test_other_lines(self):
        for desk in (Desk(), self.desk_of((-5, "w", "r"), [0, 7])):
            for line in OTHER_LINES:
                self.refused(desk, line, NoAsk)

    def test_numbers_that_are_none_at_each_place(self):
        desk = self.desk_of((1, "e", "l"), [1, 12])
        for word, many in WORDS.items():
            for at in range(many):
                for none in NO_NUMBERS:
                    numbers = ["0"] * many
                    numbers[at] = none
                    self.refused(desk, " ".join([word] + numbers), NoAsk)

    def test_too_many_and_too_few_words(self):
        desk = self.desk_of((1, "e", "l"), [1, 12])
        for word, many in WORDS.items():
            for other in range(7):
                if other != many:
                    self.refused(desk, " ".join([word] + ["1"] * other), NoAsk)

    def test_blanks_line_ends_and_great_letters(self):
        desk = self.desk_of((1, "e", "l"), [1])
        for word, many in WORDS.items():
            parts = [word] + ["7"] * many
            line = " ".join(parts)
            wrong = [f" {line}", f"{line} ", f"{line}\n", f"\n{line}", f"{line}\n\n", line.upper(), line.title()]
            if many:
                wrong += [line.replace(" ", blank) for blank in ("  ", "\n", "")] + [line.replace(" ", "  ", 1)]
            for text in wrong:
                self.refused(desk, text, NoAsk)

    def test_places_to_more_than_a_thousand_million(self):
        desk = self.desk_of((1, "e", "l"), [1, 12])
        for word in OF_PLACE + OF_BOX:
            many = WORDS[word]
            for at in range(many):
                for far in (FAR + 1, -FAR - 1, 10 ** 10, -10 ** 10, MOST, -MOST):
                    numbers = ["0"] * many
                    numbers[at] = str(far)
                    self.refused(desk, " ".join([word] + numbers), NoAsk)

    def test_places_to_just_a_thousand_million(self):
        desk = self.desk_of((1, "e", "l"), [1, 12])
        for word in OF_PLACE:
            for place in ((FAR, 0), (-FAR, 0), (0, FAR), (0, -FAR), (FAR, -FAR)):
                self.assertEqual(len(desk.ask(f"{word} {written(place)}")), 1)
        for word in OF_BOX:
            for box in ((-FAR, 0, 0, 0), (0, -FAR, 0, 0), (0, 0, FAR, 0), (0, 0, 0, FAR), (-FAR, -FAR, FAR, FAR)):
                self.assertEqual(len(desk.ask(f"{word} {written(box)}")), 1)

    def test_numbers_may_be_greater_than_places(self):
        desk = Desk()
        for number in (FAR + 1, 10 ** 10, MOST):
            for word in ("mark", "where", "around", "ring", "run", "far", "off"):
                desk.ask(f"{word} {number}")

    def test_str_tells_a_text(self):
        self.assertIs(type(str(self.refused(Desk(), "no", NoAsk))), str)


class NoNumberTest(Desks):
    def test_below_the_start(self):
        for spiral in SPIRALS:
            desk = self.desk_of(spiral, [spiral[0]])
            for number in (spiral[0] - 1, spiral[0] - 10 ** 9, -MOST):
                for word in OF_NUMBER:
                    self.refused_number(desk, f"{word} {number}", number)

    def test_marked_already_and_not_marked(self):
        for spiral in FEW_SPIRALS:
            start = spiral[0]
            desk = self.desk_of(spiral, [start, start + 8])
            for number in (start, start + 8):
                self.refused_number(desk, f"mark {number}", number)
            for number in (start + 1, start + 7, MOST):
                self.refused_number(desk, f"off {number}", number)
            desk.ask(f"off {start}")
            self.refused_number(desk, f"off {start}", start)

    def test_no_box(self):
        for desk in (Desk(), self.desk_of((-5, "w", "r"), [0, 7])):
            for word in OF_BOX:
                for box in NO_BOXES:
                    self.refused(desk, f"{word} {box}", NoBox)

    def test_no_ask_comes_ahead_of_no_box(self):
        desk = self.desk_of((1, "e", "l"), [1])
        for word in OF_BOX:
            for box in (
                "1 0 0 1000000001", "1 0 0 -0", "1 0 0 x", "1 0 0", "1000000001 0 0 0", "0 1 00 0", "1 0 0 0 0",
            ):
                self.refused(desk, f"{word} {box}", NoAsk)


class SixtyTest(Desks):
    def test_any_mark_where_sixty_are_kept(self):
        for spiral in FEW_SPIRALS:
            start = spiral[0]
            desk = self.desk_of(spiral, [start + more for more in range(59)])
            self.refused_number(desk, f"mark {start}", start)
            self.refused_number(desk, f"mark {start - 1}", start - 1)
            self.asked(desk, f"mark {start + 400}", [])
            # A new one, one that is marked, and ones below the start.
            for number in (start + 59, start, start + 400, start - 1, -MOST, MOST):
                self.refused(desk, f"mark {number}", NoAsk)
            self.refused_number(desk, f"off {start + 59}", start + 59)
            self.assertEqual(len(desk.ask("marks")[0].split(" ")), 60)
            self.asked(desk, f"off {start}", [])
            self.refused_number(desk, f"mark {start + 1}", start + 1)
            self.asked(desk, f"mark {start + 59}", [])
            self.refused(desk, f"mark {start}", NoAsk)

    def test_another_spiral_has_room_again(self):
        desk = self.desk_of((1, "e", "l"), range(1, 61))
        self.refused(desk, "mark 61", NoAsk)
        self.refused(desk, "spiral 1 e", NoSpiral)
        self.refused(desk, "mark 61", NoAsk)
        desk.ask("spiral 1 e l")
        for number in range(61, 121):
            self.asked(desk, f"mark {number}", [])
        self.refused(desk, "mark 1", NoAsk)
        self.asked(desk, "marks", [written(range(61, 121))])


class WholeTest(Desks):
    def test_told_lists_are_the_askers_own(self):
        desk = self.desk_of((1, "e", "l"), [3, 4])
        lines = ("show", "marks", "at 0 0", "where 5", "around 1", "ring 9", "run 9", "sum 0 0 1 1", "far 9",
                 "within 0 0 9 9", "near 0 0", "spiral 1 e l", "mark 3", "marks", "off 3", "marks", "near 0 0")
        first = [desk.ask(line) for line in lines]
        kept = [list(told) for told in first]
        desk.ask("mark 3")
        desk.ask("mark 4")
        again = [desk.ask(line) for line in lines]
        self.assertEqual(first, kept)
        self.assertEqual(again, kept)
        for told in first:
            told.append("changed")
            told[0] = "changed"
        desk.ask("mark 3")
        desk.ask("mark 4")
        self.assertEqual([desk.ask(line) for line in lines], kept)

    def test_two_desks_have_nothing_in_common(self):
        one, other = Desk(), Desk()
        one.ask("mark 5")
        self.asked(other, "marks", [])
        other.ask("spiral 7 n r")
        other.ask("mark 9")
        self.asked(one, "show", ["1 e l"])
        self.asked(one, "marks", ["5"])
        one.ask("off 5")
        self.asked(other, "marks", ["9"])
        self.asked(Desk(), "show", ["1 e l"])
        self.asked(Desk(), "marks", [])

    def test_three_hundred_deeds(self):
        for seed in range(8):
            chance = random.Random(seed)
            desk, spiral, marked = Desk(), (1, "e", "l"), set()
            for deed in range(300):
                number = spiral[0] + chance.randrange(-2, 80)
                word = chance.choices(("mark", "off", "spiral", "none"), (90, 30, 1, 4))[0]
                if word == "spiral":
                    spiral, marked = chance.choice(SPIRALS), set()
                    self.asked(desk, f"spiral {spiral_shown(spiral)}", [])
                elif word == "none":
                    self.refused(desk, chance.choice(OTHER_LINES), NoAsk)
                elif word == "mark" and len(marked) == 60:
                    self.refused(desk, f"mark {number}", NoAsk)
                elif word == "mark" and (number < spiral[0] or number in marked):
                    self.refused_number(desk, f"mark {number}", number)
                elif word == "mark":
                    self.asked(desk, f"mark {number}", [])
                    marked.add(number)
                elif number in marked:
                    self.asked(desk, f"off {number}", [])
                    marked.remove(number)
                else:
                    self.refused_number(desk, f"off {number}", number)
                self.asked(desk, "marks", [written(sorted(marked))] if marked else [])
                self.asked(desk, "show", [spiral_shown(spiral)])
                if deed % 20 == 19:
                    afresh = self.desk_of(spiral, sorted(marked, reverse=True))
                    self.assertEqual(lines_told(desk), lines_told(afresh))

    def test_far_asks_are_told_soon(self):
        with soon():
            for spiral in SPIRALS:
                desk = self.desk_of(spiral, range(MOST - 59, MOST + 1))
                for word in ("where", "around", "ring", "run", "far"):
                    desk.ask(f"{word} {MOST}")
                for word in OF_BOX:
                    desk.ask(f"{word} {-FAR} {-FAR} {FAR} {FAR}")
                for word in OF_PLACE:
                    desk.ask(f"{word} {FAR} {-FAR}")
                desk.ask("marks")

    def test_ask_stands_in_the_class_itself(self):
        self.assertIn("ask", vars(Desk))


if __name__ == "__main__":
    unittest.main()
