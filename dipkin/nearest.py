"""The row of a tree that is nearest to a row, and the judge of it."""

from dipkin.flattest import flattest
from dipkin.heights import heights_of, higher_pairs, is_over, lifted, row_by
from dipkin.trees import tree_of


def nearest(tree, row):
    """How far the nearest row of the tree is, that row, and the pair of places that shows it (None where it is 0)."""
    flat = flattest(tree)
    heights = heights_of(flat, row)
    pair = max(higher_pairs(tree, heights), key=lambda ab: heights[ab[0]] - heights[ab[1]], default=None)
    far = 0
    if pair is not None:
        a, b = pair
        # The two have to meet: of an odd way between them one goes the longer half.
        far = (heights[a] - heights[b] + 1) // 2
    made = row_by(flat, [height - far for height in lifted(tree, heights)])
    return (far, made, pair)


def pair_shows(tree, heights, far, pair):
    """Whether a pair shows that no row of the tree is nearer than far."""
    if far == 0:
        return pair is None
    if not isinstance(pair, tuple) or len(pair) != 2:
        return False
    a, b = pair
    return is_over(tree, a, b) and heights[a] - heights[b] in (2 * far, 2 * far - 1)


def nearest_right(tree, row, far, made, pair):
    """Whether made is a row of the tree, no further than far from the row, and pair shows that none is nearer."""
    heights = heights_of(flattest(tree), row)
    if tree_of(made) != tree:
        return False
    near = all([abs(number - other) <= far for number, other in zip(made, row)])
    return near and pair_shows(tree, heights, far, pair)
