"""The ways between trees and cars: each knot wishes its elder's place in the row of visits."""

from countkin.cars import Cars
from countkin.elders import Trees


def knots_with(numbers, number):
    """The knots, rising, at whose places a number stands: place 0 is that of knot 1."""
    return [place + 1 for place, one in enumerate(numbers) if one == number]


def tree_to_cars(thing):
    Trees().refuse_other(thing)
    row = [0]
    for place in range(len(thing)):
        row.extend(knots_with(thing, row[place]))
    return [row.index(elder) for elder in thing]


def cars_to_tree(thing):
    Cars().refuse_other(thing)
    row = [0]
    for place in range(len(thing)):
        # Who wishes a place is a child of the knot that stands there.
        row.extend(knots_with(thing, place))
    return [row[wish] for wish in thing]
