"""Stretches of rows, their lows, and whether two rows are kin."""

from dipkin.errors import NoPlace, Unlike


def need_stretch(many, a, b):
    """Refuse what is no stretch of so many places."""
    if not 0 <= a <= b < many:
        # No number of the asker's is written out: one of thousands of figures can't be.
        raise NoPlace(f"no such stretch of {many} places")


def lesser(row, one, other):
    """The place of the lesser number; of two alike the one told first."""
    return other if row[other] < row[one] else one


def low(row, a, b):
    """The place of the least number from a to b, of several the first."""
    need_stretch(len(row), a, b)
    least = a
    for place in range(a + 1, b + 1):
        least = lesser(row, least, place)
    return least


def parted(one, other):
    """The first of the shortest stretches whose lows are unlike, None of kin rows."""
    if len(one) != len(other):
        raise Unlike(f"one row has {len(one)} numbers, the other {len(other)}")
    # Each beginning keeps its low of the size before, so a size more costs one look a beginning.
    ones = list(range(len(one)))
    others = list(range(len(other)))
    for size in range(2, len(one) + 1):
        for a in range(len(one) - size + 1):
            b = a + size - 1
            ones[a] = lesser(one, ones[a], b)
            others[a] = lesser(other, others[a], b)
            if ones[a] != others[a]:
                return (a, b)
    return None


def kin(one, other):
    """Whether two rows have as many numbers and the same tree."""
    return len(one) == len(other) and parted(one, other) is None
