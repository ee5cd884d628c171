"""Spirals as texts, and where their numbers stand."""

from laidround.errors import NoSpiral
from laidround.spirals.offsets import HEADINGS, TURNS, from_plain, offset_of
from laidround.spirals.offsets import plain_offset, plain_place, to_plain

FIGURES = "0123456789"


def is_written_number(text):
    """Whether the text is a whole number as it is written."""
    if text == "0":
        return True
    figures = text.removeprefix("-")
    if figures == "" or figures[0] == "0":
        return False
    return all(sign in FIGURES for sign in figures)


def read_spiral(text):
    """The spiral that the text writes, or NoSpiral."""
    # Only the blank parts words: split() would let line ends through.
    words = text.split(" ")
    if len(words) != 3:
        raise NoSpiral(f"no spiral: {text}")
    start, heading, turn = words
    if not is_written_number(start) or heading not in HEADINGS or turn not in TURNS:
        raise NoSpiral(f"no spiral: {text}")
    return (int(start), heading, turn)


def spiral_shown(spiral):
    """The text that writes the spiral."""
    start, heading, turn = spiral
    return f"{start} {heading} {turn}"


def place_of(spiral, number):
    """Where the number stands, or NoNumber."""
    return from_plain(spiral, plain_place(offset_of(spiral, number)))


def number_at(spiral, place):
    """Which number stands at the place."""
    return spiral[0] + plain_offset(to_plain(spiral, place))
