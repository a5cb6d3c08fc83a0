"""Heights: what the numbers of a row are more than the flat numbers of their places.

A row is one of the tree just where no place is higher than one under it. So what a tree asks of numbers it asks of
heights alike on both sides of a place, and they are only compared.
"""

from dipkin.errors import Unlike
from dipkin.trees import from_below, way_up


def heights_of(flat, row):
    """The height of each number of a row, by the flattest row of a tree."""
    if len(row) != len(flat):
        raise Unlike(f"a row of {len(row)} numbers, a tree of {len(flat)} places")
    return [number - least for number, least in zip(row, flat)]


def row_by(flat, heights):
    """The row that has these heights."""
    return tuple([least + height for least, height in zip(flat, heights)])


def lifted(tree, heights):
    """For each place the greatest height of it and the places over it."""
    up = list(heights)
    for place in from_below(tree)[::-1]:
        if tree[place] >= 0:
            up[place] = max(up[place], up[tree[place]])
    return up


def is_over(tree, a, b):
    """Whether two numbers are places of the tree, the first over the second."""
    return 0 <= b < len(tree) and a in way_up(tree, b)


def higher_pairs(tree, heights):
    """The rising list of all pairs of places, the first over the second and higher."""
    pairs = [(a, b) for b in range(len(tree)) for a in way_up(tree, b) if heights[a] > heights[b]]
    return sorted(pairs)
