"""Boxes: the sum of their numbers, the least and the greatest, and how many."""

from laidround.errors import NoBox
from laidround.spirals.offsets import plain_ring, to_plain
from laidround.sums.sides import box_round, ring_spans


def check_box(box):
    """NoBox where the quadruple is no box."""
    left, low, right, high = box
    if left > right or low > high:
        raise NoBox(f"no box: {left} {low} {right} {high}")


def plain_box(spiral, box):
    """The box in which the plain spiral lays what the spiral lays in this one."""
    left, low, right, high = box
    return box_round([to_plain(spiral, (left, low)), to_plain(spiral, (right, high))])


def near_ring(box):
    """The ring nearest to the middle of those that go through the box."""
    left, low, right, high = box
    return max(left, -right, low, -high, 0)


def far_ring(box):
    """The ring furthest from the middle of those that go through the box."""
    return max([abs(edge) for edge in box])


def places_within(box, ring):
    """How many places of the box stand on this ring or on those within it."""
    left, low, right, high = box
    wide = min(right, ring) - max(left, -ring) + 1
    tall = min(high, ring) - max(low, -ring) + 1
    return max(wide, 0) * max(tall, 0)


def ring_sum(box, ring):
    """The sum of the ring's offsets that stand in the box."""
    return sum([(first + last) * (last - first + 1) // 2 for first, last in ring_spans(box, ring)])


def leading_differences(row):
    """The row's first number, that of its differences, that of theirs, and so on."""
    leading = []
    while row:
        leading.append(row[0])
        row = [behind - ahead for ahead, behind in zip(row, row[1:])]
    return leading


def alike_rings_sum(box, ring, many):
    """The sum of the offsets in the box on so many rings that go alike through it."""
    # Spans grow evenly from one such ring to the next and offsets with its
    # square, so the sum of a ring is at most a cubic of it: four tell them all.
    row = [ring_sum(box, ring + gone) for gone in range(min(many, 4))]
    total = 0
    times = 1
    for order, difference in enumerate(leading_differences(row)):
        times = times * (many - order) // (order + 1)
        total += times * difference
    return total


def ring_cuts(box):
    """The rings at which those that go alike through the box begin, and the one behind all."""
    near = near_ring(box)
    behind = far_ring(box) + 1
    # Rings go through the box in another way only once they are past one more edge.
    past = [abs(edge) + 1 for edge in box]
    return [ring for ring in sorted(set([near, behind] + past)) if near <= ring <= behind]


def offsets_sum(box):
    """The sum of all offsets that the plain spiral lays in the box."""
    cuts = ring_cuts(box)
    return sum([alike_rings_sum(box, ring, behind - ring) for ring, behind in zip(cuts, cuts[1:])])


def box_sum(spiral, box):
    """The sum of all numbers in the box, or NoBox."""
    check_box(box)
    return spiral[0] * places_within(box, far_ring(box)) + offsets_sum(plain_box(spiral, box))


def box_ends(spiral, box):
    """The least and the greatest number in the box, or NoBox."""
    check_box(box)
    start = spiral[0]
    plain = plain_box(spiral, box)
    least = min([first for first, last in ring_spans(plain, near_ring(plain))])
    greatest = max([last for first, last in ring_spans(plain, far_ring(plain))])
    return (start + least, start + greatest)


def box_count(spiral, box, number):
    """How many numbers to this one stand in the box, or NoBox."""
    check_box(box)
    offset = number - spiral[0]
    if offset < 0:
        return 0
    plain = plain_box(spiral, box)
    ring = plain_ring(offset)
    laid = [min(last, offset) - first + 1 for first, last in ring_spans(plain, ring) if first <= offset]
    return places_within(plain, ring - 1) + sum(laid)
