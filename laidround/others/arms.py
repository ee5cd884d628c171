"""Spirals with longer arms.

As with offsets, only the plain spiral is reckoned with, here with its arms. Its
runs are counted from 0; four of them, by e, n, w and s, make a round.
"""

from laidround.spirals.offsets import STEPS, from_plain, offset_of, to_plain, whole_root


def run_length(arms, run):
    """How many steps the run has."""
    return arms[run % 2] + run // 2


def begin_offset(arms, run):
    """The offset of the number that the run begins at."""
    first, second = arms
    pairs = run // 2
    # The pairs of runs ahead have first + second steps, and 0, 2, 4 .. more.
    ahead = pairs * (first + second + pairs - 1)
    return ahead + run_length(arms, run - 1) if run % 2 == 1 else ahead


def begin_place(arms, run):
    """Where the run begins."""
    first, second = arms
    rounds = run // 4
    # Each run goes back one step further than the one over against it went.
    corners = (
        (-rounds, -rounds),
        (first + rounds, -rounds),
        (first + rounds, second + rounds),
        (-rounds - 1, second + rounds),
    )
    return corners[run % 4]


def run_with(arms, offset):
    """A run on which the number of this offset stands, its begin included."""
    first, second = arms
    ahead = first + second - 1
    # The most pairs of runs for which pairs * (pairs + ahead) is at most the offset.
    pairs = (whole_root(ahead * ahead + 4 * offset) - ahead) // 2
    second_run = 2 * pairs + 1
    return second_run if offset > begin_offset(arms, second_run) else second_run - 1


def place_by_arms(spiral, arms, number):
    """Where the number stands with these arms, or NoNumber."""
    offset = offset_of(spiral, number)
    run = run_with(arms, offset)
    gone = offset - begin_offset(arms, run)
    along, up = begin_place(arms, run)
    east, north = STEPS[run % 4]
    return from_plain(spiral, (along + east * gone, up + north * gone))


def runs_by(arms, place):
    """The runs whose lines go through the place; most of them end short of it."""
    first, second = arms
    along, up = place
    rounds_ahead = (-up, along - first, up - second, -along - 1)
    return [4 * rounds + side for side, rounds in enumerate(rounds_ahead) if rounds >= 0]


def steps_to(arms, run, place):
    """How many steps behind the run's begin the place is, by the run's heading."""
    along, up = place
    begin_along, begin_up = begin_place(arms, run)
    east, north = STEPS[run % 4]
    return (along - begin_along) * east + (up - begin_up) * north


def number_by_arms(spiral, arms, place):
    """Which number stands at the place with these arms, or None."""
    plain = to_plain(spiral, place)
    for run in runs_by(arms, plain):
        gone = steps_to(arms, run, plain)
        if 0 <= gone <= run_length(arms, run):
            return spiral[0] + begin_offset(arms, run) + gone
    return None
