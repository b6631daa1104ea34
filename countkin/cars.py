"""Rows of cars that all find a place, and the ways between them and codes."""

from countkin.ring import Codes, RingFamily


class Cars(RingFamily):
    """Lists of the places that cars wish, of which enough are small enough."""

    def __init__(self):
        RingFamily.__init__(self, "cars")

    def size_of(self, thing):
        return len(thing)

    def is_one(self, thing):
        if thing == [] or min(thing) < 0:
            return False
        return all([wish <= place for place, wish in enumerate(sorted(thing))])

    def code_of(self, thing):
        ring = len(thing) + 1
        return [(thing[k] - thing[k - 1]) % ring for k in range(1, len(thing))]

    def of_code(self, code):
        ring = len(code) + 2
        wishes = [0]
        for step in code:
            wishes.append((wishes[-1] + step) % ring)
        # Turned round the ring, just one row of these leaves the ring's last place free, and is a row of cars.
        while not self.is_one(wishes):
            wishes = [(wish + 1) % ring for wish in wishes]
        return wishes


def parked(thing):
    """The places at which the cars come to stand, in the cars' order."""
    Cars().refuse_other(thing)
    places = []
    for wish in thing:
        place = wish
        while place in places:
            place += 1
        places.append(place)
    return places


def cars_to_code(thing):
    Cars().refuse_other(thing)
    return Cars().code_of(thing)


def code_to_cars(thing):
    Codes().refuse_other(thing)
    return Cars().of_code(thing)
