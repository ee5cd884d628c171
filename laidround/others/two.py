"""Two spirals side by side."""

from laidround.spirals.offsets import quarters_of
from laidround.spirals.places import number_at, place_of
from laidround.sums.streets import streets_between


def moved(one, other, number):
    """The number of the other spiral that stands where this one's does, or NoNumber."""
    return number_at(other, place_of(one, number))


def same_places(one, other, first, last):
    """Which of the numbers from the first to the last stand at the same place in both."""
    found = []
    number = max(first, one[0], other[0])
    while number <= last:
        apart = streets_between(place_of(one, number), place_of(other, number))
        if apart == 0:
            found.append(number)
        # From a number to the next the two places come at most two streets nearer.
        number += max(apart // 2, 1)
    return tuple(found)


def turned_by(one, other):
    """How the one's places become the other's: (quarter turns to the left, mirrored)."""
    quarters = quarters_of(one[1])
    mirrored = one[2] != other[2]
    if mirrored:
        # Exchanging e and w leaves n and s as they are.
        quarters = 2 - quarters
    return ((quarters_of(other[1]) - quarters) % 4, mirrored)
