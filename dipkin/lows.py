"""The low of any stretch by the tree alone, spans and shares, and the sum of all leasts."""

from dipkin.rows import need_stretch
from dipkin.trees import fences_of, need_tree, tree_of, way_up


def low_by(tree, a, b):
    """The place from a to b that is over all others there."""
    need_tree(tree)
    need_stretch(len(tree), a, b)
    # It is over a, or a itself, and nothing over it is left between a and b: so it is the last one on a's way up.
    return [place for place in [a] + way_up(tree, a) if a <= place <= b][-1]


def spans_of(tree):
    """For each place the greatest stretch (a, b) of which it is the low."""
    need_tree(tree)
    return [(ahead + 1, behind - 1) for ahead, behind in fences_of(tree)]


def share_list(tree):
    """The shares, of a tree of any length."""
    return [(place - ahead) * (behind - place) for place, (ahead, behind) in enumerate(fences_of(tree))]


def shares_of(tree):
    """For each place of how many stretches it is the low."""
    need_tree(tree)
    return share_list(tree)


def leasts_sum(row):
    """The sum of the least numbers of all stretches."""
    return sum([number * share for number, share in zip(row, share_list(tree_of(row)))])
