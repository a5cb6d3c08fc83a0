"""Stretches of rows, their lows, and whether two rows are kin."""

from dipkin.errors import Empty, NoPlace, Unlike


def need_numbers(row, fewest=1):
    """Refuse a row of fewer numbers."""
    if len(row) < fewest:
        raise Empty(f"a row of {len(row)} numbers where {fewest} are needed")


def is_stretch(many, a, b):
    """Whether (a, b) is a stretch of so many places."""
    return 0 <= a <= b < many


def need_stretch(many, a, b):
    """Refuse what is no stretch of so many places."""
    if not is_stretch(many, a, b):
        # No number of the asker's is written out: one of thousands of figures can't be.
        raise NoPlace(f"no such stretch of {many} places")


def lesser(row, one, other):
    """The place of the lesser number; of two alike the one told first."""
    return other if row[other] < row[one] else one


def low(row, a, b):
    """The place of the least number from a to b, of several the first."""
    need_stretch(len(row), a, b)
    least = a
    for place in range(a + 1, b + 1):
        least = lesser(row, least, place)
    return least


def low_steps(row):
    """For each size, from one place on, a list: how many steps behind its beginning each such stretch has its low."""
    table = []
    lows = list(range(len(row)))
    for size in range(1, len(row) + 1):
        lows = [lesser(row, lows[a], a + size - 1) for a in range(len(row) - size + 1)]
        table.append([place - a for a, place in enumerate(lows)])
    return table


def parting(ones, others, one, other, size):
    """The first of the shortest stretches that part two stretches of one size, None where they are kin.

    They begin at one and at other, in rows whose low_steps are ones and others: so these are reckoned once,
    however many stretches are compared.
    """
    for more in range(1, size):
        here = ones[more][one:one + size - more]
        there = others[more][other:other + size - more]
        if here != there:
            a = [x == y for x, y in zip(here, there)].index(False)
            return (a, a + more)
    return None


def parted(one, other):
    """The first of the shortest stretches whose lows are unlike, None of kin rows."""
    if len(one) != len(other):
        raise Unlike(f"one row has {len(one)} numbers, the other {len(other)}")
    return parting(low_steps(one), low_steps(other), 0, 0, len(one))


def parts_at(ones, others, one, other, a, b):
    """Whether the lows of a stretch are unlike, as it is counted from one and from other, by low_steps."""
    return ones[b - a][one + a] != others[b - a][other + a]


def all_tuples(entries):
    """Whether a paper's entries are tuples: where a tuple is told, a list is none."""
    return all([isinstance(entry, tuple) for entry in entries])


def kin(one, other):
    """Whether two rows have as many numbers and the same tree."""
    return len(one) == len(other) and parted(one, other) is None
