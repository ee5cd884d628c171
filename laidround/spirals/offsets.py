"""What the other modules share: offsets, and the plain spiral.

An offset is how far behind the start a number was laid. The plain spiral has
the heading e and the turn l; every other one is it mirrored, then turned, so
only the plain one is reckoned with.
"""

from laidround.errors import NoNumber

HEADINGS = ("e", "n", "w", "s")
TURNS = ("l", "r")
STEPS = ((1, 0), (0, 1), (-1, 0), (0, -1))


def offset_of(spiral, number):
    """How far behind the start the number was laid, or NoNumber."""
    start = spiral[0]
    if number < start:
        raise NoNumber(number)
    return number - start


def whole_root(square):
    """The greatest whole number whose square is at most this one, from 0 on."""
    if square == 0:
        return 0
    # Newton's steps only fall towards the root when they begin above it.
    root = 1 << (square.bit_length() + 1) // 2
    better = (root + square // root) // 2
    while better < root:
        root = better
        better = (root + square // root) // 2
    return root


def plain_ring(offset):
    """The ring of the number of this offset."""
    return (whole_root(offset) + 1) // 2


def plain_place(offset):
    """Where the plain spiral lays the number of this offset."""
    ring = plain_ring(offset)
    # Offset 4 * ring * ring is the upper left corner, between two sides.
    past = offset - 4 * ring * ring
    if past > 2 * ring:
        return (past - 3 * ring, -ring)
    if past > 0:
        return (-ring, ring - past)
    if past > -2 * ring:
        return (-ring - past, ring)
    return (ring, past + 3 * ring)


def plain_offset(place):
    """The offset of the number that the plain spiral lays at the place."""
    along, up = place
    ring = max(abs(along), abs(up))
    square = 4 * ring * ring
    # The corner at the lower right ends its ring, so the low side goes first.
    if up == -ring:
        return square + 3 * ring + along
    if along == -ring:
        return square + ring - up
    if up == ring:
        return square - ring - along
    return square - 3 * ring + up


def quarters_of(heading):
    """How many quarter turns to the left lead from e to the heading."""
    return HEADINGS.index(heading)


def turned_left(place, quarters):
    """The place behind so many quarter turns of the plane, 0 to 3."""
    along, up = place
    if quarters == 1:
        return (-up, along)
    if quarters == 2:
        return (-along, -up)
    if quarters == 3:
        return (up, -along)
    return (along, up)


def mirrored_by(turn, place):
    """The place, with n and s exchanged where the turn is to the right."""
    along, up = place
    if turn == "r":
        return (along, -up)
    return (along, up)


def from_plain(spiral, place):
    """Where the spiral lays what the plain one lays at the place."""
    start, heading, turn = spiral
    return turned_left(mirrored_by(turn, place), quarters_of(heading))


def to_plain(spiral, place):
    """Where the plain spiral lays what the spiral lays at the place."""
    start, heading, turn = spiral
    back = (4 - quarters_of(heading)) % 4
    return mirrored_by(turn, turned_left(place, back))


def corner_offset(many):
    """The offset of the number that ends so many runs; of none, the start's."""
    # The runs are 1, 1, 2, 2, 3, 3 .. steps long: this is their sum.
    return (many + 1) * (many + 1) // 4


def run_index(offset):
    """Which run the number of this offset was laid on, counted from 0."""
    # The start was laid on no run: it goes with the first number behind it.
    laid = max(offset, 1)
    return whole_root(4 * laid - 1) - 1
