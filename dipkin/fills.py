"""The rows of a tree whose numbers are all from 0 to m - 1, counted and by number, and its orders."""

from dipkin.counts import running_sums
from dipkin.errors import NoNumber, TooMany
from dipkin.lows import spans_of
from dipkin.numbers import pick
from dipkin.trees import from_below, need_tree, tree_of, young_of

MOST_FILLED = 12


def need_few(many, m):
    """Refuse more places, or other bounds, than rows are counted for."""
    if many > MOST_FILLED or not 0 <= m <= MOST_FILLED:
        raise TooMany(f"rows are counted of at most {MOST_FILLED} places and over 0 to {MOST_FILLED}")


def span_ways(tree, young, m):
    """For each place a list: in how many ways its span is filled with no number below 0, below 1, up to below m."""
    ways = {None: [1] * (m + 1)}
    for place in from_below(tree):
        ahead, behind = young[place]
        # Those ahead of a place are above its number, those behind it may be as great.
        each = [ways[ahead][number + 1] * ways[behind][number] for number in reversed(range(m))]
        ways[place] = ([0] + running_sums(each))[::-1]
    return ways


class Filling:
    """A row of a tree over m, as its numbers are set one by one from the first place on."""

    def __init__(self, tree, m):
        self.tree = tree
        self.most = m
        self.young = young_of(tree)
        self.spans = span_ways(tree, self.young, m)
        self.outsides = {}
        self.row = []

    def how_many_rows(self):
        """How many rows there are."""
        return self.spans[self.tree.index(-1)][0] if self.tree else 1

    def outside_ways(self, place):
        """For each number of a place in how many ways all places not under it and not set yet are filled."""
        if place not in self.outsides:
            self.outsides[place] = self.outside_by_elder(place, self.tree[place])
        return self.outsides[place]

    def outside_by_elder(self, place, elder):
        """The same, by the ways of its elder, which is set already where it stands ahead."""
        if elder == -1:
            return [1] * self.most
        if elder > place:
            return [0] + running_sums(self.onward_ways(elder))[:-1]
        least = self.row[elder]
        return [0] * least + [self.outside_ways(elder)[least]] * (self.most - least)

    def onward_ways(self, place):
        """For each number of a place in how many ways all behind it is filled, as far as what is ahead allows any."""
        behind = self.young[place][1]
        return [out * self.spans[behind][number] for number, out in enumerate(self.outside_ways(place))]

    def next_ways(self):
        """For each number of the next place in how many ways the row goes on."""
        place = len(self.row)
        ahead = self.young[place][0]
        above = self.most if ahead is None else self.row[ahead]
        return self.onward_ways(place)[:above]


def many_rows(tree, m):
    """How many rows of a tree over m there are."""
    need_tree(tree)
    need_few(len(tree), m)
    return Filling(tree, m).how_many_rows()


def row_at(tree, m, number):
    """The row of a tree over m that stands at a number, in ascending order."""
    need_tree(tree)
    need_few(len(tree), m)
    filling = Filling(tree, m)
    if not 0 <= number < filling.how_many_rows():
        raise NoNumber(f"no row of these {len(tree)} places over {m} stands there")
    for place in range(len(tree)):
        chosen, number = pick(filling.next_ways(), number)
        filling.row.append(chosen)
    return tuple(filling.row)


def number_of_row(row, m):
    """The number at which a row stands among those of its tree over m."""
    need_few(len(row), m)
    if not all([0 <= number < m for number in row]):
        raise NoNumber(f"a number that is not from 0 to {m} less 1")
    filling = Filling(tree_of(row), m)
    at = 0
    for number in row:
        at += sum(filling.next_ways()[:number])
        filling.row.append(number)
    return at


def many_orders(tree):
    """How many rows of a tree have each number from 0 on, below its count of places, once."""
    orders = 1
    bound = 1
    for many, (a, b) in enumerate(spans_of(tree), start=1):
        orders *= many
        bound *= b - a + 1
    return orders // bound
