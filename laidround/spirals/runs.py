"""Runs, rows of places and rays."""

from laidround.spirals.offsets import HEADINGS, STEPS, corner_offset, offset_of
from laidround.spirals.offsets import quarters_of, run_index
from laidround.spirals.places import number_at

RAYS = ((1, 0), (1, 1), (0, 1), (-1, 1), (-1, 0), (-1, -1), (0, -1), (1, -1))


def heading_behind(spiral, turns):
    """The heading behind so many turns."""
    start, heading, turn = spiral
    quarters = turns if turn == "l" else -turns
    return HEADINGS[(quarters_of(heading) + quarters) % 4]


def run_of(spiral, number):
    """The run of the number: where it begins and ends, and its heading, or NoNumber."""
    start = spiral[0]
    run = run_index(offset_of(spiral, number))
    return (start + corner_offset(run), start + corner_offset(run + 1), heading_behind(spiral, run))


def row_from(spiral, place, heading, many):
    """The numbers at so many places, from this one on by the heading."""
    along, up = place
    east, north = STEPS[quarters_of(heading)]
    return tuple([number_at(spiral, (along + east * gone, up + north * gone)) for gone in range(many)])


def rays_of(spiral):
    """For each ray, how often the times gone count beside four times their square."""
    # One time is enough: there the number is the start, 4 and what is asked.
    return tuple([number_at(spiral, ray) - spiral[0] - 4 for ray in RAYS])
