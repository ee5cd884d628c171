"""Numbers laid one by one, by the words of promises [4] and [14]: what the tests compare with.

Nothing here comes from the package.
"""

import itertools

HEADINGS = ("e", "n", "w", "s")
STEPS = {"e": (1, 0), "n": (0, 1), "w": (-1, 0), "s": (0, -1)}
LEFT = {"e": "n", "n": "w", "w": "s", "s": "e"}
RIGHT = {"n": "e", "w": "n", "s": "w", "e": "s"}
STARTS = (1, 0, -1, -7, 42, 10 ** 18, -10 ** 18)
WAYS = tuple(itertools.product(HEADINGS, ("l", "r")))
SPIRALS = tuple((start, heading, turn) for start in STARTS for heading, turn in WAYS)
NEAR_SPIRALS = tuple((1, heading, turn) for heading, turn in WAYS)
FEW_SPIRALS = tuple((start, heading, turn) for start in (1, -10 ** 18) for heading, turn in WAYS)

# The corner behind four times so many runs, up to about number 10 ** 20.
ROUNDS = (1, 2, 3, 1000, 10 ** 6, 10 ** 9 - 1, 10 ** 9, 10 ** 9 + 1, 5 * 10 ** 9 - 2)


def turned(heading, turn):
    return LEFT[heading] if turn == "l" else RIGHT[heading]


def stepped(place, heading, many=1):
    along, up = STEPS[heading]
    return (place[0] + along * many, place[1] + up * many)


def lay(spiral, runs=40, arms=(1, 1)):
    """(place by number, the runs as (begin, end, heading)) of the first so many runs."""
    number, heading, turn = spiral
    place = (0, 0)
    places = {number: place}
    laid_runs = []
    for run in range(runs):
        begin = number
        for step in range(arms[run % 2] + run // 2):
            number += 1
            place = stepped(place, heading)
            places[number] = place
        laid_runs.append((begin, number, heading))
        heading = turned(heading, turn)
    return places, laid_runs


def lay_places(spiral, runs=40, arms=(1, 1)):
    """Number by place of the first so many runs."""
    places, laid_runs = lay(spiral, runs, arms)
    return {place: number for number, place in places.items()}


def far_runs(spiral, rounds, runs=9, arms=(1, 1)):
    """Runs behind 4 * rounds ones, as (index, begin, end, heading, place of begin).

    By so many rounds the first heading is gone first, first + 2, first + 4 ..
    steps and its opposite first + 1, first + 3 .. steps, so the corner reached
    is `rounds` back along the heading, whatever the first arm is; the same holds
    for the heading behind the first turn.
    """
    start, heading, turn = spiral
    place = stepped((0, 0), heading, -rounds)
    place = stepped(place, turned(heading, turn), -rounds)
    number = start + 2 * rounds * (arms[0] + arms[1]) + 2 * rounds * (2 * rounds - 1)
    found = []
    for run in range(4 * rounds, 4 * rounds + runs):
        length = arms[run % 2] + run // 2
        found.append((run, number, number + length, heading, place))
        number += length
        place = stepped(place, heading, length)
        heading = turned(heading, turn)
    return found


def spots_on(length):
    """How many steps behind a run's begin to look: about its ends and its middle."""
    near = (1, 2, 3, length // 2 - 1, length // 2, length // 2 + 1, length - 2, length - 1, length)
    return sorted({spot for spot in near if 1 <= spot <= length})


def far_numbers(spiral, arms=(1, 1), many_rounds=ROUNDS):
    """Numbers far out with their places: (number, place)."""
    found = []
    for rounds in many_rounds:
        for run, begin, end, heading, place in far_runs(spiral, rounds, 9, arms):
            for spot in spots_on(end - begin):
                found.append((begin + spot, stepped(place, heading, spot)))
    return found


def below(spiral):
    """Numbers less than the start."""
    start = spiral[0]
    return (start - 1, start - 2, start - 10 ** 9, -10 ** 20)
