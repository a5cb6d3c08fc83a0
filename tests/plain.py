"""What the document says, word by word and slowly, and rows to ask about."""

import itertools
import random
import sys
import unittest

BIG = 10 ** 60 - 1
FAR = (10 ** 59, -10 ** 59, 10 ** 5000, -10 ** 5000)


def stretches(many):
    return [(a, b) for a in range(many) for b in range(a, many)]


def low(row, a, b):
    return min(range(a, b + 1), key=lambda place: (row[place], place))


def lows(row):
    return {stretch: low(row, *stretch) for stretch in stretches(len(row))}


def partings(one, other):
    """All stretches whose lows are unlike, the shortest first, of these the first first."""
    here, there = lows(one), lows(other)
    return sorted((ab for ab in here if here[ab] != there[ab]), key=lambda ab: (ab[1] - ab[0], ab))


def tree(row):
    elders = [None] * len(row)

    def hang(a, b, elder):
        if a <= b:
            top = low(row, a, b)
            elders[top] = elder
            hang(a, top - 1, top)
            hang(top + 1, b, top)

    hang(0, len(row) - 1, -1)
    return tuple(elders)


def over(tree, place):
    """The set of the places over a place."""
    found = set()
    while tree[place] != -1:
        place = tree[place]
        found.add(place)
    return found


def flat(tree):
    """The flat numbers: how many of the places over each one stand behind it."""
    return [len([at for at in over(tree, place) if at > place]) for place in range(len(tree))]


def all_trees(many):
    """All trees of so many places: each has a row with each number once."""
    return sorted({tree(row) for row in itertools.permutations(range(many))})


def all_rows(many, numbers):
    return itertools.product(range(numbers), repeat=many)


def edge_rows():
    """Rows at the edges that the document names, and beyond forty."""
    rows = [
        (), (5,), (-BIG,), (0, 0), (0, 1), (1, 0), (3, 1, 3), (1, 3, 1), (2, 1, 1, 2), (1, 2, 2, 1, 1),
        (BIG, -BIG, BIG), (-BIG, BIG, -BIG), (BIG, BIG - 1, BIG, -BIG, -BIG + 1, -BIG), (0, -1, 0, -1),
    ]
    for many in (39, 40, 41):
        rows.append(tuple(range(many)))
        rows.append(tuple(range(many, 0, -1)))
        rows.append((7,) * many)
        rows.append(tuple(place % 2 for place in range(many)))
        rows.append(tuple(BIG - abs(2 * place - many) for place in range(many)))
        rows.append(tuple(abs(2 * place - many) - BIG for place in range(many)))
    return rows


def chance_rows(count, longest, seed):
    """The same rows each time, of few numbers (many alike) and of far ones."""
    source = random.Random(seed)
    rows = []
    for at in range(count):
        most = (1, 3, 10, BIG)[at % 4]
        rows.append(tuple(source.randint(-most, most) for _ in range(source.randint(0, longest))))
    return rows


def some_rows():
    return edge_rows() + chance_rows(60, 40, 1)


def some_trees():
    """Trees of at most forty places: all of the small ones, and those of some rows."""
    small = [one for many in range(6) for one in all_trees(many)]
    return small + [tree(row) for row in some_rows() if len(row) <= 40]


def some_pairs(many):
    """Pairs that are no stretch of so many places."""
    wrong = [(-1, 0), (-1, -1), (0, many), (many, many), (1, 0), (many - 1, many), (many, many - 1), (-many, -1)]
    wrong += [(far, 0) for far in FAR] + [(0, far) for far in FAR] + [(far, far) for far in FAR]
    return [(a, b) for a, b in wrong if not 0 <= a <= b < many]


def trees_and_rows():
    """Pairs of a tree and a row of as many numbers: of the tree, near it and far from it."""
    source = random.Random(11)
    trees = [tree(row) for row in some_rows() if len(row) <= 40]
    pairs = [(one, tuple(flat(one))) for one in trees]
    for at, one in enumerate(trees):
        many = len(one)
        near = [number + source.randint(-1, 1) for number in flat(one)]
        far = [source.randint(-BIG, BIG) for _ in range(many)]
        few = [source.randint(0, 9) for _ in range(many)]
        kinds = [near, far, few, list(range(many)), list(range(many, 0, -1)), [-BIG] * many]
        pairs += [(one, tuple(kind)) for kind in kinds[at % 2::2]]
    return pairs


def no_trees():
    """Tuples of whole numbers that are the tree of no row."""
    row = tuple(range(-1, 40))
    return [
        (0,), (1,), (-2,), (BIG,), (-BIG,), (-1, -1), (1, 0), (0, 0), (1, 1), (-1, 1), (-1, 2), (-1, -2), (2, -1),
        (-1, 0, 0), (2, 2, -1), (1, 2, 0), (-1, 2, 1), (1, 2, 3), (1, 3, 3, -1), (2, -1, 0), (2, -1, 1, 1),
        (-1, 10 ** 5000), (-1,) * 40, (0,) * 40, row, (-1,) * 41, tuple(range(1, 41)) + (-1,), (-1,) + (0,) * 40,
        tuple(range(1, 41)), tuple(range(-1, 38)) + (39,), tuple(range(-1, 500)),
    ]


def steps_of(call, *args):
    """How many lines run for one answer."""
    seen = [0]

    def trace(frame, event, arg):
        if event == "line":
            seen[0] += 1
        return trace

    before = sys.gettrace()
    sys.settrace(trace)
    try:
        call(*args)
    finally:
        sys.settrace(before)
    return seen[0]


class Case(unittest.TestCase):
    """Asks that hold for every module."""

    def refused(self, error, call, *args):
        """The call is refused with this very class, and leaves what was handed in as it was."""
        with self.assertRaises(error) as caught:
            call(*args)
        self.assertIs(type(caught.exception), error)

    def new_each_time(self, call, *args):
        """What is done to a list that was told changes no later answer."""
        once = call(*args)
        kept = [list(part) if isinstance(part, list) else part for part in once]
        self.assertIsInstance(once, list)
        for part in once:
            if isinstance(part, list):
                part.append("mark")
        once.append("mark")
        self.assertEqual(call(*args), kept)

    def few_steps(self, call, *args):
        self.assertLess(steps_of(call, *args), 100000)
