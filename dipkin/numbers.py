"""Trees by number, in the order of their drops."""

from dipkin.counts import need_count, running_sums
from dipkin.errors import NoNumber
from dipkin.tellings import by_drops, drops_of


def pick(ways, number):
    """Of things that stand for so many numbers each, the one that a number falls to, and what is left of it there."""
    at = 0
    while number >= ways[at]:
        number -= ways[at]
        at += 1
    return at, number


def goings_on(n):
    """For each count of places to come, up to n, a list: in how many ways their drops go on, by the open places."""
    table = [[1] * (n + 1)]
    for step in range(n):
        # With one open place the next drop leaves one or two open, with two it leaves one to three, and so on.
        table.append(running_sums(table[-1][1:]))
    return table


def drop_ways(goings, still):
    """For each drop in how many ways the places behind go on, where so many places are open ahead of it."""
    return goings[1:still + 2][::-1]


def tree_at(n, number):
    """The tree of n places that stands at a number."""
    need_count(n)
    table = goings_on(n)
    if not 0 <= number < table[n][0]:
        raise NoNumber(f"no tree of {n} places stands there")
    drops = []
    still = 0
    for left in reversed(range(n)):
        drop, number = pick(drop_ways(table[left], still), number)
        drops.append(drop)
        still += 1 - drop
    return by_drops(tuple(drops))


def number_of(tree):
    """The number at which a tree stands among those of as many places."""
    drops = drops_of(tree)
    table = goings_on(len(drops))
    number = 0
    still = 0
    for place, drop in enumerate(drops):
        number += sum(drop_ways(table[len(drops) - 1 - place], still)[:drop])
        still += 1 - drop
    return number
