"""The judge of the most numbers of a row that can stay."""

from dipkin.flattest import flattest
from dipkin.heights import heights_of, is_over
from dipkin.rows import all_tuples
from dipkin.trees import tree_of


def keeps(row, kept, made):
    """Whether kept are rising places of the row, at which made has its numbers."""
    if not isinstance(kept, tuple) or list(kept) != [place for place in range(len(row)) if place in kept]:
        return False
    return all([made[place] == row[place] for place in kept])


def is_chain(tree, heights, chain):
    """Whether each place is over the next one and higher."""
    return all([is_over(tree, a, b) and heights[a] > heights[b] for a, b in zip(chain, chain[1:])])


def stay_right(tree, row, kept, made, chains):
    """Whether made is a row of the tree with the row's numbers at kept, and the chains show that no more can stay."""
    heights = heights_of(flattest(tree), row)
    if tree_of(made) != tree or not keeps(row, kept, made):
        return False
    if len(chains) != len(kept) or () in chains or not all_tuples(chains):
        return False
    # Of each chain one place stays at most: so where each place stands in one, no more can stay than there are chains.
    places = [place for chain in chains for place in chain]
    return sorted(places) == list(range(len(tree))) and all([is_chain(tree, heights, chain) for chain in chains])
