"""The marks of the families by rings, each told of a thing that is one of its family."""


def missing(numbers, among):
    """How many numbers of a row do not stand among others."""
    return len([number for number in numbers if number not in among])


def trees_leaves(thing):
    """How many knots from 1 on are nobody's elder."""
    return missing(list(range(1, len(thing) + 1)), thing)


def trees_rootage(thing):
    """How many knots have 0 as their elder."""
    return thing.count(0)


def codes_leaves(thing):
    """How many of the numbers from 1 to the size do not stand in the code."""
    return missing(list(range(1, len(thing) + 2)), thing)


def codes_rootage(thing):
    """How often 0 stands in the code, and once more."""
    return 1 + thing.count(0)


def cars_leaves(thing):
    """How many of the places from 0 to the size nobody wishes."""
    return missing(list(range(len(thing) + 1)), thing)


def cars_rootage(thing):
    """How many wish place 0."""
    return thing.count(0)
