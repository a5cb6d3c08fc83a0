"""The most numbers of a row that can stay as they are in a row of a tree."""

from dipkin.flattest import flattest
from dipkin.heights import heights_of, higher_pairs, row_by
from dipkin.trees import from_below


def clashing(tree, row):
    """The rising list of all pairs of places, the first over the second, whose numbers can't both stay."""
    return higher_pairs(tree, heights_of(flattest(tree), row))


def lower_under(tree, heights):
    """For each place the places under it that clash with it."""
    lower = [[] for place in tree]
    for a, b in higher_pairs(tree, heights):
        lower[a].append(b)
    return lower


def chains_by(order, lower, heights):
    """The chains by their first places, and for each place the next one in its chain, None for none.

    From below, by the order, each place is put ahead of the chain under it whose first place is the highest of
    those that are lower: so the first places left are as low as can be, and no more chains are begun than must be.
    """
    chains = {}
    following = {}
    for place in order:
        firsts = [b for b in lower[place] if b in chains]
        best = max(firsts, key=lambda b: heights[b], default=None)
        chains[place] = (place,) + (() if best is None else chains.pop(best))
        following[place] = best
    return chains, following


def stays(height, bar, under):
    """Whether a place of this height stays where the last one that stays over it is as high as the bar.

    One that clashes with the next of its chain, of the height under, only stays where that one can't.
    """
    return height >= bar and (under is None or under < bar)


def most_stay(tree, row):
    """The places that stay, a row of the tree with the row's numbers there, and as many chains that show it."""
    flat = flattest(tree)
    heights = heights_of(flat, row)
    order = from_below(tree)
    chains, following = chains_by(order, lower_under(tree, heights), heights)
    # The top has no place over it: its bar is one that nothing is below.
    bars = {-1: min(heights, default=0)}
    kept = []
    for place in order[::-1]:
        bars[place] = bars[tree[place]]
        after = following[place]
        if stays(heights[place], bars[place], None if after is None else heights[after]):
            kept.append(place)
            bars[place] = heights[place]
    made = row_by(flat, [bars[place] for place in range(len(tree))])
    return (tuple(sorted(kept)), made, list(chains.values()))
