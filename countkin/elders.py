"""Trees, told by each knot's elder, and the ways between them and codes."""

from countkin.ring import Codes, RingFamily


class Trees(RingFamily):
    """Lists of the elders of the knots from 1 on, by which every knot comes to knot 0."""

    def __init__(self):
        RingFamily.__init__(self, "trees")

    def size_of(self, thing):
        return len(thing)

    def is_one(self, thing):
        size = len(thing)
        if size == 0 or not all([0 <= elder <= size for elder in thing]):
            return False
        return all([comes_to_0(thing, knot) for knot in range(1, size + 1)])

    def code_of(self, thing):
        there = list(range(1, len(thing) + 1))
        written = []
        while there != []:
            elders = [thing[knot - 1] for knot in there]
            taken = min([knot for knot in there if knot not in elders])
            written.append(thing[taken - 1])
            there.remove(taken)
        return written[:-1]

    def of_code(self, code):
        written = code + [0]
        there = list(range(1, len(written) + 1))
        elders = [0] * len(written)
        for place, elder in enumerate(written):
            # Who is nobody's elder any more is written down nowhere from here on.
            taken = min([knot for knot in there if knot not in written[place:]])
            elders[taken - 1] = elder
            there.remove(taken)
        return elders


def comes_to_0(elders, knot):
    """Whether the walk from a knot, from elder to elder, comes to knot 0."""
    reached = knot
    # A walk that is longer than there are knots goes in a ring.
    for step in range(len(elders)):
        if reached > 0:
            reached = elders[reached - 1]
    return reached == 0


def tree_to_code(thing):
    Trees().refuse_other(thing)
    return Trees().code_of(thing)


def code_to_tree(thing):
    Codes().refuse_other(thing)
    return Trees().of_code(thing)
