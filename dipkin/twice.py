"""Stretches that are kin to one another: groups of them, the longest twice, the longest of two rows."""

from dipkin.rows import all_tuples, is_stretch, low_steps, need_numbers, parting, parts_at
from dipkin.seek import row_distances, seen_within


def stretch_keys(told, size):
    """For each stretch of a row's so many places its distances, by those of the row: kin stretches have the same."""
    keys = []
    for a in range(len(told) - size + 1):
        keys.append(tuple([seen_within(distance, at) for at, distance in enumerate(told[a:a + size])]))
    return keys


def groups_by(told, size):
    """The groups of beginnings of kin stretches, by the distances of the row."""
    groups = {}
    for a, key in enumerate(stretch_keys(told, size)):
        groups.setdefault(key, [])
        groups[key].append(a)
    return list(groups.values())


def groups_of(row, size):
    """The lists of the beginnings of kin stretches of so many places, by their first ones."""
    return groups_by(row_distances(row), size)


def twice_at(told, size):
    """The first two beginnings of kin stretches of one size, or None."""
    for group in groups_by(told, size):
        if len(group) > 1:
            return (group[0], group[1])
    return None


def both_at(ones, others, size):
    """The first beginnings, in the one row and in the other, of kin stretches of one size, or None."""
    firsts = {}
    for b, key in enumerate(stretch_keys(others, size)):
        firsts.setdefault(key, b)
    for a, key in enumerate(stretch_keys(ones, size)):
        if key in firsts:
            return (a, firsts[key])
    return None


def longest(most, pair_at):
    """The greatest size up to most for which there is a pair of beginnings, and that pair.

    There is one for size 1, and wherever there is one for a greater size: so the middle of what is left is tried.
    """
    size, pair = 1, pair_at(1)
    above = most + 1
    while above - size > 1:
        middle = (size + above) // 2
        found = pair_at(middle)
        if found is None:
            above = middle
        else:
            size, pair = middle, found
    return (size,) + pair


def longest_twice(row):
    """The greatest size of kin stretches of the row, and where the first two of them begin."""
    need_numbers(row, 2)
    told = row_distances(row)
    return longest(len(row) - 1, lambda size: twice_at(told, size))


def longest_both(one, other):
    """The greatest size of a stretch of the one row that is kin to one of the other, and where the first begin."""
    need_numbers(one)
    need_numbers(other)
    ones = row_distances(one)
    others = row_distances(other)
    return longest(min(len(one), len(other)), lambda size: both_at(ones, others, size))


def pairs_below(many):
    """Each two of so many beginnings, rising by both."""
    return [(one, other) for one in range(many) for other in range(one + 1, many)]


def none_longer(row):
    """For each two stretches of one place more than the longest twice: where they begin, and what parts them."""
    size = longest_twice(row)[0] + 1
    steps = low_steps(row)
    return [(one, other) + parting(steps, steps, one, other, size) for one, other in pairs_below(len(row) - size + 1)]


def none_right(row, size, shown):
    """Whether a list shows that no two stretches of so many places are kin."""
    beginnings = [(one, other) for one, other, a, b in shown]
    if not all_tuples(shown) or beginnings != pairs_below(len(row) - size + 1):
        return False
    steps = low_steps(row)
    return all([is_stretch(size, a, b) and parts_at(steps, steps, one, other, a, b) for one, other, a, b in shown])
