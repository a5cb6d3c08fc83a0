"""Trees of stretches by the tree alone, and trees of rows that are put together."""

from dipkin.counts import choices
from dipkin.errors import TooMany
from dipkin.flattest import flattest
from dipkin.rows import need_stretch
from dipkin.trees import MOST_PLACES, need_tree, tree_of, way_up

MOST_JOINED = 500


def tree_within(tree, a, b):
    """The tree of the stretch from a to b of each row of a tree."""
    row = flattest(tree)
    need_stretch(len(tree), a, b)
    return tree_of(row[a:b + 1])


def side_by_side(one, other):
    """The elders of two trees, places of the other counted on behind those of the one."""
    return list(one) + [elder if elder == -1 else elder + len(one) for elder in other]


def seam(one, other):
    """The list of (place, elder in its own row, elder now) of the places whose elder is another one in the whole."""
    apart = side_by_side(tree_of(one), tree_of(other))
    together = tree_of(list(one) + list(other))
    return [(place, own, now) for place, (own, now) in enumerate(zip(apart, together)) if own != now]


def shuffles(ones, others):
    """All lists of two lists put into one, each in its own order, those that begin with the other's first ahead."""
    # For each place of the ones: all ways from there on with the others from some place on, first with none of them.
    ways = [[ones[k:]] for k in range(len(ones) + 1)]
    for j in reversed(range(len(others))):
        longer = [[others[j:]]]
        for k in reversed(range(len(ones))):
            other_first = [[others[j]] + rest for rest in ways[k]]
            one_first = [[ones[k]] + rest for rest in longer[-1]]
            longer.append(other_first + one_first)
        ways = longer[::-1]
    return ways[0]


def joined_trees(one, other):
    """All trees of a row of the one tree and a row of the other put together, in the order of their drops."""
    need_tree(one)
    need_tree(other)
    apart = side_by_side(one, other)
    # Only the last place of the one, the first of the other, and those over them may meet: they come to hang
    # under one another, in the order of their numbers.
    ones = [len(one) - 1] + way_up(apart, len(one) - 1) if one else []
    others = [len(one)] + way_up(apart, len(one)) if other else []
    if len(apart) > MOST_PLACES or choices(len(ones) + len(others), len(ones)) > MOST_JOINED:
        raise TooMany(f"more than {MOST_PLACES} places, or than {MOST_JOINED} trees")
    trees = []
    for chain in shuffles(ones, others):
        elders = list(apart)
        for place, elder in zip(chain, chain[1:] + [-1]):
            elders[place] = elder
        trees.append(tuple(elders))
    return trees
