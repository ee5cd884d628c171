"""How far numbers are by streets."""

from laidround.spirals.offsets import plain_offset, plain_ring
from laidround.spirals.places import place_of


def streets_between(place, other):
    """How far the two places are apart by streets."""
    return abs(place[0] - other[0]) + abs(place[1] - other[1])


def streets_of(spiral, number):
    """How far the number is by streets, or NoNumber."""
    return streets_between(place_of(spiral, number), (0, 0))


def offsets_so_far(ring, streets):
    """The ring's offsets that are just so far by streets, rising."""
    rest = streets - ring
    if rest < 0 or rest > ring:
        return []
    places = [(side * ring, way * rest) for side in (1, -1) for way in (1, -1)]
    # Both ways are the same in the middle of a side, and two sides at a corner.
    return sorted(set([plain_offset(place) for along, up in places for place in ((along, up), (up, along))]))


def places_so_far(ring, streets):
    """How many places on this ring or on those within it are just so far by streets."""
    if streets == 0:
        return 1 if ring >= 0 else 0
    # By quarters: all that are so far, or no more than stand in a corner of the square.
    return 4 * max(min(streets, 2 * ring - streets + 1), 0)


def count_so_far(spiral, many, streets):
    """How many of the first so many numbers are just so far by streets."""
    if many == 0:
        return 0
    last = many - 1
    ring = plain_ring(last)
    laid = [offset for offset in offsets_so_far(ring, streets) if offset <= last]
    return places_so_far(ring - 1, streets) + len(laid)


def first_so_far(spiral, streets):
    """The first number that is just so far by streets."""
    # No place of a ring is further than its corners, which are twice the ring far.
    ring = (streets + 1) // 2
    return spiral[0] + offsets_so_far(ring, streets)[0]
