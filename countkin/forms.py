"""The forms in which things are written: each is written to a text, and read from it or refused with NoText."""

from countkin.errors import NoText

NOTHING = "-"
FIGURES = "0123456789"
MOST_FIGURES = 3


def writes_number(text):
    """Whether a text is one to three figures, the first no 0 but for 0 itself."""
    if text == "" or len(text) > MOST_FIGURES:
        return False
    return all([sign in FIGURES for sign in text]) and (text == "0" or text[0] != "0")


def read_number(text):
    if not writes_number(text):
        raise NoText("no number is written so")
    return int(text)


def written_row(texts, between):
    """The texts with a sign between, or - where there are none."""
    if texts == []:
        return NOTHING
    return between.join(texts)


def read_row(text, between):
    """The list of the texts that have a sign between them."""
    if text == NOTHING:
        return []
    return text.split(between)


def written_numbers(thing):
    return written_row([str(number) for number in thing], " ")


def read_numbers(text):
    return [read_number(one) for one in read_row(text, " ")]


def written_brackets(thing):
    return written_row(list(thing), "")


def read_brackets(text):
    if text == NOTHING:
        return ""
    if text == "" or not all([sign in "()" for sign in text]):
        raise NoText("brackets are written as ( and ) alone")
    return text


def written_pair(a, b):
    return f"{a}-{b}"


def read_pair(text):
    numbers = text.split("-")
    if len(numbers) != 2:
        raise NoText("a pair is two numbers with - between")
    return (read_number(numbers[0]), read_number(numbers[1]))


def written_bows(thing):
    return written_row([written_pair(a, b) for a, b in thing], " ")


def read_bows(text):
    return [read_pair(one) for one in read_row(text, " ")]


def written_room(room):
    return ",".join([str(number) for number in room])


def read_room(text):
    return [read_number(one) for one in text.split(",")]


def written_rooms(thing):
    return written_row([written_room(room) for room in thing], " ")


def read_rooms(text):
    return [read_room(one) for one in read_row(text, " ")]


def written_floor(thing):
    return written_row([str(thing[0])] + [written_pair(a, b) for a, b in thing[1]], " ")


def read_floor(text):
    # Not by read_row: a floor has corners, so - does not stand for one.
    texts = text.split(" ")
    return (read_number(texts[0]), [read_pair(one) for one in texts[1:]])


def written_twins(thing):
    if thing == ():
        return "."
    return "(" + written_twins(thing[0]) + written_twins(thing[1]) + ")"


def read_twins(text):
    """The row holds, for each ( that is not closed yet, its twins so far; its first list is for the whole."""
    row = [[]]
    for sign in text:
        if sign == "(":
            row.append([])
        elif sign == ".":
            row[-1].append(())
        elif sign == ")" and len(row) > 1 and len(row[-1]) == 2:
            twin = tuple(row.pop())
            row[-1].append(twin)
        else:
            raise NoText("no twins are written so")
    if len(row) > 1 or len(row[0]) != 1:
        raise NoText("one twin is to be written, to its end")
    return row[0][0]
