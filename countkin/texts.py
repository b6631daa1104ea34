"""Things written as lines and read from them, and lines led along chains."""

from countkin.chains import chain, chain_ends
from countkin.errors import Apart
from countkin.forms import (
    read_bows, read_brackets, read_floor, read_numbers, read_rooms, read_twins, written_bows, written_brackets,
    written_floor, written_numbers, written_rooms, written_twins,
)
from countkin.names import family_of


def form_of(word):
    """The tuple of what writes a thing of a family, and what reads its text."""
    forms = {
        "brackets": (written_brackets, read_brackets),
        "twins": (written_twins, read_twins),
        "bows": (written_bows, read_bows),
        "rooms": (written_rooms, read_rooms),
        "floor": (written_floor, read_floor),
    }
    # All other families are lists of numbers.
    return forms.get(word, (written_numbers, read_numbers))


def written(word, thing):
    """The line that writes a thing of a family."""
    family_of(word).refuse_other(thing)
    return word + " " + form_of(word)[0](thing)


def read(line):
    """The tuple of a family's word and the thing that a line writes."""
    pieces = line.partition(" ")
    word = pieces[0]
    family = family_of(word)
    # Where there is no blank the rest is the empty text, which is of no form.
    thing = form_of(word)[1](pieces[2])
    family.refuse_other(thing)
    return (word, thing)


def led(line, names):
    """The line of the thing to which a chain leads the thing of a line."""
    told = read(line)
    words = chain_ends(names)
    if words[0] != told[0]:
        raise Apart("the chain does not begin in the line's family")
    return written(words[1], chain(names)(told[1]))
