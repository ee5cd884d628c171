"""Kept marks: the marked numbers of a spiral."""

from laidround.errors import NoNumber
from laidround.spirals.places import number_at, place_of
from laidround.spirals.runs import RAYS
from laidround.sums.boxes import check_box
from laidround.sums.sides import stands_in
from laidround.sums.streets import streets_between


class KeptMarks:
    """A spiral and its marked numbers, at first none."""

    def __init__(self, spiral):
        self.spiral = spiral
        # The place of each marked number, so that none is reckoned twice.
        self.places = {}

    def put_mark(self, number):
        """Mark the number, or NoNumber."""
        place = place_of(self.spiral, number)
        if number in self.places:
            raise NoNumber(number)
        self.places[number] = place

    def take_mark(self, number):
        """Take the number off, or NoNumber."""
        if number not in self.places:
            raise NoNumber(number)
        del self.places[number]

    def marks_now(self):
        """The marked numbers, rising."""
        return tuple(sorted(self.places))

    def marks_in(self, box):
        """How many marked numbers stand in the box, or NoBox."""
        check_box(box)
        return len([place for place in self.places.values() if stands_in(box, place)])

    def marks_around(self, number):
        """The marked ones of the number's eight neighbours, rising, or NoNumber."""
        along, up = place_of(self.spiral, number)
        around = [number_at(self.spiral, (along + east, up + north)) for east, north in RAYS]
        return tuple(sorted([other for other in around if other in self.places]))

    def nearest_mark(self, place):
        """The marked number nearest by streets to the place, the least of several, or None."""
        if not self.places:
            return None
        far, nearest = min([(streets_between(place, at), number) for number, at in self.places.items()])
        return nearest
