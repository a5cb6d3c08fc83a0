"""The least row of a tree within bounds, or two places that clash, and the judge of both."""

from dipkin.flattest import flattest
from dipkin.heights import heights_of, is_over, lifted, row_by
from dipkin.trees import way_up


def fitted(tree, least, greatest):
    """("row", row), the row of the tree within the bounds that is the least at each place, or ("clash", a, b)."""
    flat = flattest(tree)
    floors = heights_of(flat, least)
    roofs = heights_of(flat, greatest)
    needed = lifted(tree, floors)
    for b, height in enumerate(needed):
        if height > roofs[b]:
            lifting = [a for a in [b] + way_up(tree, b) if floors[a] == height]
            return ("clash", lifting[0], b)
    return ("row", row_by(flat, needed))


def fits_least(tree, floors, roofs, heights):
    """Whether each height is the least that its floor and its elder's height allow, and not above its roof."""
    for place, height in enumerate(heights):
        elder = tree[place]
        needed = floors[place] if elder == -1 else max(floors[place], heights[elder])
        if height != needed or height > roofs[place]:
            return False
    return True


def is_clash(tree, floors, roofs, a, b):
    """Whether two numbers are one place, or two of which the first is over the second, and the floor is too high."""
    there = is_over(tree, a, b) or a == b and 0 <= a < len(tree)
    return there and floors[a] > roofs[b]


def fitted_right(tree, least, greatest, told):
    """Whether what is told is the least row of the tree within the bounds, or a clash of them."""
    flat = flattest(tree)
    floors = heights_of(flat, least)
    roofs = heights_of(flat, greatest)
    if not isinstance(told, tuple):
        return False
    if told[:1] == ("row",) and len(told) == 2:
        return len(told[1]) == len(tree) and fits_least(tree, floors, roofs, heights_of(flat, told[1]))
    return told[:1] == ("clash",) and len(told) == 3 and is_clash(tree, floors, roofs, told[1], told[2])
