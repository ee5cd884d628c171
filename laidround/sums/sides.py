"""What the modules of sums share: the sides of rings, and boxes round places.

The plain spiral lays each ring but the middle as four sides, by n, w, s and e,
each of twice the ring numbers and with a corner of the ring as its last one.
"""

from laidround.spirals.offsets import turned_left


def box_round(places):
    """The least box in which all these places stand."""
    alongs = [along for along, up in places]
    ups = [up for along, up in places]
    return (min(alongs), min(ups), max(alongs), max(ups))


def stands_in(box, place):
    """Whether the place stands in the box."""
    left, low, right, high = box
    along, up = place
    return left <= along <= right and low <= up <= high


def ahead_of_side(ring, side):
    """The offset just ahead of the ring's side; the sides are counted from 0."""
    return 4 * ring * (ring - 1) + 2 * ring * side


def turned_box(box, quarters):
    """The box behind so many quarter turns of the plane to the left, 0 to 3."""
    left, low, right, high = box
    return box_round([turned_left((left, low), quarters), turned_left((right, high), quarters)])


def side_spans(box, ring, side):
    """The offsets of the ring's side that stand in the box: one span, or none."""
    # Turned back like this, every side is the first one, which goes by n.
    left, low, right, high = turned_box(box, (4 - side) % 4)
    first = max(low + ring, 1)
    last = min(high + ring, 2 * ring)
    if ring < left or ring > right or first > last:
        return []
    ahead = ahead_of_side(ring, side)
    return [(ahead + first, ahead + last)]


def ring_spans(box, ring):
    """The offsets of the ring that stand in the box, as spans (first, last)."""
    if ring == 0:
        return [(0, 0)] if stands_in(box, (0, 0)) else []
    return [span for side in range(4) for span in side_spans(box, ring, side)]
