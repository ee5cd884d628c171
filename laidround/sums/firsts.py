"""The first so many numbers: the sums of their places, their sides, their box."""

from laidround.spirals.offsets import corner_offset, from_plain, plain_place, plain_ring, run_index
from laidround.spirals.places import place_of
from laidround.sums.boxes import box_count
from laidround.sums.sides import ahead_of_side, box_round


def side_sums(ring, side, last):
    """The sums of the alongs and of the ups on the ring's side, to the last offset."""
    ahead = ahead_of_side(ring, side)
    many = max(min(last - ahead, 2 * ring), 0)
    along, up = plain_place(ahead + 1)
    last_along, last_up = plain_place(ahead + many)
    return ((along + last_along) * many // 2, (up + last_up) * many // 2)


def sums_of_first(spiral, many):
    """The sums of the alongs and of the ups of the first so many numbers."""
    if many == 0:
        return (0, 0)
    last = many - 1
    # On a whole ring each place stands over against another: only the last ring counts.
    ring = plain_ring(last)
    sums = [side_sums(ring, side, last) for side in range(4)]
    return from_plain(spiral, (sum([along for along, up in sums]), sum([up for along, up in sums])))


def sides_of_first(spiral, many):
    """How many of the first so many stand with an along above 0, and with an up above 0."""
    last = spiral[0] + many - 1
    # None of so many numbers stands further out than this.
    reach = many + 1
    return (
        box_count(spiral, (1, -reach, reach, reach), last),
        box_count(spiral, (-reach, 1, reach, reach), last),
    )


def box_of_first(spiral, many):
    """The least box in which the first so many numbers stand, or None of none."""
    if many == 0:
        return None
    last = many - 1
    run = run_index(last)
    # The two runs ahead of the last one go along two sides of the box that all ahead of it fill.
    ends = [corner_offset(max(run - back, 0)) for back in range(3)] + [last]
    return box_round([place_of(spiral, spiral[0] + end) for end in ends])
