"""Small questions and steps about numbers and pairs that several families share."""


def raised_by(numbers, step):
    """Each number greater by a step, which may be below nought."""
    return [number + step for number in numbers]


def pairs_raised_by(pairs, step):
    """Both numbers of each pair greater by a step, which may be below nought."""
    return [(a + step, b + step) for a, b in pairs]


def flat(rows):
    """All that stands in the rows, one row behind the other."""
    found = []
    for row in rows:
        found.extend(row)
    return found


def each_once(numbers):
    """Whether these are the numbers from 0 on, each once, in whatever order."""
    return sorted(numbers) == list(range(len(numbers)))


def any_cross(pairs):
    """Whether one pair begins within another one and ends behind it."""
    for a, b in pairs:
        for c, d in pairs:
            if a < c < b < d:
                return True
    return False


def pairs_anew(pairs):
    """The pairs written as families of pairs ask: the lesser number first, and rising."""
    return sorted([(min(a, b), max(a, b)) for a, b in pairs])
