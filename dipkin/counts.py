"""How many trees there are: all, by open places, by falls, by their greatest flat number."""

from dipkin.errors import TooMany
from dipkin.trees import MOST_PLACES


def need_count(n):
    """Refuse a count of places that no tree has."""
    if not 0 <= n <= MOST_PLACES:
        raise TooMany(f"trees have 0 to {MOST_PLACES} places")


def running_sums(numbers):
    """For each number the sum of it and all ahead of it."""
    sums = []
    total = 0
    for number in numbers:
        total += number
        sums.append(total)
    return sums


def one_more(ends):
    """The counts of climbs one number longer: a climb goes on with any number up to its last one and 1."""
    told = running_sums(ends[::-1])[::-1]
    return told[:1] + told[:-1]


def climbs(n, most):
    """How many climbs of n numbers end with each number from 0 to most.

    A climb is a row of numbers from 0 to most that begins with 0 and never rises by more than 1.
    The counts of open places behind each place of a tree, less 1, are one, as are its flat
    numbers read from the last place on; each climb comes of just one tree in either way.
    """
    ends = [1] + [0] * most
    for step in range(n - 1):
        ends = one_more(ends)
    return ends


def many_trees(n):
    """How many trees of n places there are."""
    return many_flat(n, n)


def many_open(n, k):
    """How many trees of n places end with just k open places."""
    need_count(n)
    if n == 0:
        return 1 if k == 0 else 0
    return climbs(n, n - 1)[k - 1] if 1 <= k <= n else 0


def choices(n, k):
    """In how many ways k of n things are chosen."""
    ways = 1
    for step in range(k):
        ways = ways * (n - step) // (step + 1)
    return ways


def many_falls(n, k):
    """How many trees of n places have just k falls."""
    need_count(n)
    if n == 0:
        return 1 if k == 0 else 0
    # A fall is a `)(` in the brackets; so counted are brackets with k + 1 runs of `(`: Narayana's numbers.
    return choices(n, k) * choices(n, k + 1) // n if 0 <= k < n else 0


def many_flat(n, most):
    """How many trees of n places have a flattest row with no number above most."""
    need_count(n)
    if n == 0:
        return 1
    return sum(climbs(n, min(most, n - 1))) if most >= 0 else 0
