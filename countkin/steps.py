"""Texts that close, and their places in the order of texts."""

from countkin.counts import GREATEST_SIZE, rests
from countkin.errors import NoNumber, NoSize, NoThing


def closes(text):
    """Whether a text is made of ( and ) alone, all of them closed."""
    depth = 0
    for sign in text:
        if sign == "(":
            depth += 1
        elif sign == ")" and depth > 0:
            depth -= 1
        else:
            return False
    return depth == 0


def refuse_unclosed(text):
    if not closes(text):
        raise NoThing("the text does not close")


def many_going_up(table, ups, downs):
    """How many ways to go on begin with a (, where ups ( and downs ) are still to come."""
    if ups == 0:
        return 0
    # The row of u begins with d = u.
    return table[ups - 1][downs - (ups - 1)]


def step_number(text):
    """The place of a text among those of its size that close."""
    refuse_unclosed(text)
    ups = len(text) // 2
    downs = ups
    table = rests(ups)
    number = 0
    for sign in text:
        if sign == "(":
            ups -= 1
        else:
            # All that have a ( here, and are alike so far, stand ahead.
            number += many_going_up(table, ups, downs)
            downs -= 1
    return number


def step_text(size, number):
    """The text of a size at a place."""
    if size < 0 or size > GREATEST_SIZE:
        raise NoSize("a size goes from 0 to 40")
    table = rests(size)
    if number < 0 or number >= table[size][0]:
        raise NoNumber("no text of this size stands at this place")
    signs = []
    ups = size
    downs = size
    while downs > 0:
        ahead = many_going_up(table, ups, downs)
        if number < ahead:
            signs.append("(")
            ups -= 1
        else:
            number -= ahead
            signs.append(")")
            downs -= 1
    return "".join(signs)


def step_next(text):
    """The text at the next place, None for the last one."""
    refuse_unclosed(text)
    ups = 0
    downs = 0
    for place in range(len(text) - 1, -1, -1):
        if text[place] == ")":
            downs += 1
        elif downs - ups > 1:
            # The last ( that may become a ): a ( still stands unclosed ahead of it.
            return text[:place] + ")" + "(" * (ups + 1) + ")" * (downs - 1)
        else:
            ups += 1
    return None
