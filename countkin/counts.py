"""How many things there are: the shares in three ways, and the rings' counts."""

GREATEST_SIZE = 40


def shares(most):
    """The list of the shares c[0] to c[most], each told by those ahead of it."""
    found = [1]
    for k in range(most):
        found.append(sum([found[j] * found[k - j] for j in range(k + 1)]))
    return found


def by_rule(size):
    """The share of a size, each got from the one ahead by a factor and a divisor."""
    share = 1
    for k in range(size):
        # The product comes first: only the whole of it is divided without a rest.
        share = share * (4 * k + 2) // (k + 2)
    return share


def rests(size):
    """The rows, for u from 0 to size, of the rests r(u, d) for d from u to size."""
    rows = [[1] * (size + 1)]
    for u in range(1, size + 1):
        rows.append(row_behind(rows[u - 1]))
    return rows


def row_behind(row):
    """The row of rests for u + 1, given the row for u, which begins one d earlier."""
    found = []
    rest = 0
    for rest_ahead in row[1:]:
        rest = rest_ahead + rest
        found.append(rest)
    return found


def ring_many(size):
    """The ring's count of a size: size - 1 factors size + 1."""
    product = 1
    for factor in [size + 1] * (size - 1):
        product = product * factor
    return product
