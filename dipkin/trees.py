"""The tree of a row: for each place the one under which it hangs, -1 for the top."""

from dipkin.errors import NoPlace, NoTree

MOST_PLACES = 40


def settle(elders, spine, place, keep):
    """Hang the place that comes, where of the spine only the first so many stay.

    The spine is the last place's way down from the top: the places that no lesser number has followed yet.
    """
    if keep < len(spine):
        elders[spine[keep]] = place
    if keep > 0:
        elders[place] = spine[keep - 1]
    del spine[keep:]
    spine.append(place)


def tree_of(row):
    """The tuple with the elder of each place of the row."""
    elders = [-1] * len(row)
    spine = []
    for place in range(len(row)):
        keep = len(spine)
        while keep > 0 and row[spine[keep - 1]] > row[place]:
            keep -= 1
        settle(elders, spine, place, keep)
    return tuple(elders)


def way_up(tree, place):
    """The elders of a place from the nearest on; ends as well where a tuple is no tree."""
    way = []
    at = tree[place]
    while 0 <= at < len(tree) and len(way) < len(tree):
        way.append(at)
        at = tree[at]
    return way


def is_tree(tree):
    """Whether a tuple of whole numbers is the tree of some row."""
    if not isinstance(tree, tuple) or len(tree) > MOST_PLACES:
        return False
    # In a tree every place is less deep than those under it, so its depths are a row of it;
    # and whatever tree_of tells is a tree.
    depths = [len(way_up(tree, place)) for place in range(len(tree))]
    return tree_of(depths) == tree


def need_tree(tree):
    """Refuse a tuple that is no tree."""
    if not is_tree(tree):
        raise NoTree(f"a tuple of {len(tree)} numbers is the tree of no row")


def elders_of(tree, place):
    """The list of the place's elder, its elder, and so on up to the top."""
    need_tree(tree)
    if not 0 <= place < len(tree):
        raise NoPlace(f"no such place of {len(tree)} places")
    return way_up(tree, place)


def fences_of(tree):
    """For each place the nearest elders ahead of it and behind it, the row's ends, -1 and its length, for none.

    Between them lies the greatest stretch of which the place is the low.
    """
    fences = []
    for place in range(len(tree)):
        way = way_up(tree, place)
        ahead = max([elder for elder in way if elder < place], default=-1)
        behind = min([elder for elder in way if elder > place], default=len(tree))
        fences.append((ahead, behind))
    return fences


def young_of(tree):
    """For each place the two that hang under it, the one ahead of it and the one behind it, None for none."""
    young = [[None, None] for place in tree]
    for place, elder in enumerate(tree):
        if elder >= 0:
            young[elder][1 if place > elder else 0] = place
    return young


def from_below(tree):
    """The places, each one behind all those under it."""
    return sorted(range(len(tree)), key=lambda place: len(way_up(tree, place)), reverse=True)
