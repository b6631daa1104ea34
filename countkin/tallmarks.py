"""Height of the families by splitting that have it, each told of a thing that is one of its family."""

from countkin.splitmarks import bows_over, depths


def brackets_height(thing):
    """The most by which a beginning has more ( than )."""
    return max(depths(thing), default=0)


def stairs_height(thing):
    """The greatest of place + 1 less the number there."""
    return max([place + 1 - number for place, number in enumerate(thing)], default=0)


def twins_height(thing):
    """The greater one of the left part's height and 1 more, and the right part's height."""
    if thing == ():
        return 0
    return max(1 + twins_height(thing[0]), twins_height(thing[1]))


def bows_height(thing):
    """The most bows of which each lies under the one ahead."""
    # All bows over a bow lie over one another, because no two cross.
    return max([len(bows_over(thing, bow)) + 1 for bow in thing], default=0)


def turns_height(thing):
    """The longest row of ever smaller numbers."""
    longest = []
    for place, number in enumerate(thing):
        # The longest such row that ends here goes on from one that ends with a greater number.
        ahead = [longest[k] for k in range(place) if thing[k] > number]
        longest.append(1 + max(ahead, default=0))
    return max(longest, default=0)
