"""Trees told in short, by distances, drops and brackets, and the ways back."""

from dipkin.errors import NoTelling
from dipkin.trees import MOST_PLACES, fences_of, need_tree, settle


def distance_list(tree):
    """The distances, of a tree of any length."""
    return [place - ahead if ahead >= 0 else 0 for place, (ahead, behind) in enumerate(fences_of(tree))]


def distances_of(tree):
    """For each place how far ahead the nearest earlier number not above its own stands, 0 for none."""
    need_tree(tree)
    return tuple(distance_list(tree))


def drops_of(tree):
    """For each place how many places stop being open as it comes."""
    need_tree(tree)
    drops = [0] * len(tree)
    for ahead, behind in fences_of(tree):
        if behind < len(tree):
            drops[behind] += 1
    return tuple(drops)


def brackets_of(tree):
    """The text with a bracket for each opening and each closing of a place."""
    drops = drops_of(tree)
    still = len(drops) - sum(drops)
    return "".join([")" * drop + "(" for drop in drops]) + ")" * still


def need_short(told):
    """Refuse what is no tuple of at most forty numbers."""
    if not isinstance(told, tuple) or len(told) > MOST_PLACES:
        raise NoTelling(f"no tuple of at most {MOST_PLACES} numbers")


def kept_by(spine, place, distance):
    """How many of the spine stay open as a place with this distance comes."""
    if distance == 0:
        return 0
    if place - distance not in spine:
        raise NoTelling(f"the distance of place {place} leads to no place that is open")
    return spine.index(place - distance) + 1


def by_distances(told):
    """The tree that has these distances."""
    need_short(told)
    elders = [-1] * len(told)
    spine = []
    for place, distance in enumerate(told):
        settle(elders, spine, place, kept_by(spine, place, distance))
    return tuple(elders)


def by_drops(told):
    """The tree that has these drops."""
    need_short(told)
    elders = [-1] * len(told)
    spine = []
    for place, drop in enumerate(told):
        if not 0 <= drop <= len(spine):
            raise NoTelling(f"not so many places are open ahead of place {place}")
        settle(elders, spine, place, len(spine) - drop)
    return tuple(elders)


def by_brackets(text):
    """The tree that has these brackets."""
    drops = []
    closed = 0
    for sign in text:
        if sign == "(":
            drops.append(closed)
            closed = 0
        elif sign == ")":
            closed += 1
        else:
            raise NoTelling("a sign that is no bracket")
    tree = by_drops(tuple(drops))
    if sum(drops) + closed != len(drops):
        raise NoTelling("not as many places are closed as are there")
    return tree
