"""The flattest row of a tree: no row of it from 0 on is lower anywhere."""

from dipkin.trees import need_tree, way_up


def flat_number(tree, place):
    """How many of the places over a place stand behind it."""
    return len([elder for elder in way_up(tree, place) if elder > place])


def flattest(tree):
    """The tuple of the flat numbers of a tree."""
    need_tree(tree)
    return tuple([flat_number(tree, place) for place in range(len(tree))])
