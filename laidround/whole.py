"""The desk: a spiral and its kept marks, asked by lines of text."""

from laidround.errors import NoAsk
from laidround.kept import KeptMarks
from laidround.spirals.around import neighbours, ring_of
from laidround.spirals.places import is_written_number, number_at, place_of, read_spiral, spiral_shown
from laidround.spirals.runs import run_of
from laidround.sums.boxes import box_sum
from laidround.sums.streets import streets_of

MOST_FIGURES = 20
FURTHEST = 10 ** 9
MOST_MARKS = 60


def in_one_row(items):
    """One text with all the items, parted by blanks."""
    return [" ".join([str(item) for item in items])]


def put_on(kept, number):
    if len(kept.marks_now()) >= MOST_MARKS:
        raise NoAsk(f"{MOST_MARKS} marks are kept already")
    kept.put_mark(number)
    return []


def take_off(kept, number):
    kept.take_mark(number)
    return []


def tell_show(kept):
    return [spiral_shown(kept.spiral)]


def tell_at(kept, along, up):
    return in_one_row([number_at(kept.spiral, (along, up))])


def tell_where(kept, number):
    return in_one_row(place_of(kept.spiral, number))


def tell_around(kept, number):
    return in_one_row(neighbours(kept.spiral, number))


def tell_ring(kept, number):
    return in_one_row([ring_of(kept.spiral, number)])


def tell_run(kept, number):
    return in_one_row(run_of(kept.spiral, number))


def tell_sum(kept, left, low, right, high):
    return in_one_row([box_sum(kept.spiral, (left, low, right, high))])


def tell_far(kept, number):
    return in_one_row([streets_of(kept.spiral, number)])


def tell_marks(kept):
    marks = kept.marks_now()
    return in_one_row(marks) if marks else []


def tell_within(kept, left, low, right, high):
    return in_one_row([kept.marks_in((left, low, right, high))])


def tell_near(kept, along, up):
    nearest = kept.nearest_mark((along, up))
    return ["none"] if nearest is None else in_one_row([nearest])


# By the first word and how many numbers stand behind it.
ACTIONS = {
    ("mark", 1): put_on,
    ("off", 1): take_off,
    ("show", 0): tell_show,
    ("at", 2): tell_at,
    ("where", 1): tell_where,
    ("around", 1): tell_around,
    ("ring", 1): tell_ring,
    ("run", 1): tell_run,
    ("sum", 4): tell_sum,
    ("far", 1): tell_far,
    ("marks", 0): tell_marks,
    ("within", 4): tell_within,
    ("near", 2): tell_near,
}


def read_number(word):
    """The number that the word writes, or NoAsk."""
    if not is_written_number(word) or len(word.removeprefix("-")) > MOST_FIGURES:
        raise NoAsk(f"no number: {word}")
    return int(word)


def read_numbers(words):
    """The numbers that the words write, or NoAsk."""
    numbers = [read_number(word) for word in words]
    # One alone is a laid number; several are a place or a box.
    if len(numbers) > 1 and max([abs(number) for number in numbers]) > FURTHEST:
        raise NoAsk(f"too far out: {numbers}")
    return numbers


class Desk:
    """A spiral, at first 1 e l, and kept marks of it."""

    def __init__(self):
        self.kept = KeptMarks((1, "e", "l"))

    def ask(self, line):
        """What the line is answered, a list of texts, or a refusal."""
        # All behind this blank is the spiral's text, which alone tells NoSpiral.
        if line.startswith("spiral "):
            self.kept = KeptMarks(read_spiral(line.removeprefix("spiral ")))
            return []
        # Only the blank parts words: split() would let line ends through.
        words = line.split(" ")
        written = words[1:]
        asked = (words[0], len(written))
        if asked not in ACTIONS:
            raise NoAsk(f"nothing is asked: {line}")
        action = ACTIONS[asked]
        numbers = read_numbers(written)
        return action(self.kept, *numbers)
