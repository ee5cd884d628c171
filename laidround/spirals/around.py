"""Neighbours, rings and corners."""

from laidround.spirals.offsets import STEPS, corner_offset, offset_of, run_index
from laidround.spirals.places import number_at, place_of


def neighbours(spiral, number):
    """The numbers beside this one, by e, n, w, s, or NoNumber."""
    along, up = place_of(spiral, number)
    return tuple([number_at(spiral, (along + east, up + north)) for east, north in STEPS])


def how_many_less(spiral, number):
    """How many of the four neighbours are less, and their least, or NoNumber."""
    beside = neighbours(spiral, number)
    less = [other for other in beside if other < number]
    return (len(less), min(beside))


def ring_of(spiral, number):
    """The number's ring, or NoNumber."""
    along, up = place_of(spiral, number)
    return max(abs(along), abs(up))


def ring_ends(spiral, ring):
    """The first and the last number of the ring."""
    start = spiral[0]
    if ring == 0:
        return (start, start)
    # The rings within make a square, and so do they with this one.
    inner = 2 * ring - 1
    outer = 2 * ring + 1
    return (start + inner * inner, start + outer * outer - 1)


def corner_at(spiral, place):
    """The corner of this place among the corners, counted from 0."""
    return spiral[0] + corner_offset(place + 1)


def is_corner(spiral, number):
    """Whether a turn is made behind the number, or NoNumber."""
    offset = offset_of(spiral, number)
    return corner_offset(run_index(offset) + 1) == offset
