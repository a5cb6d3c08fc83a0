"""11.2 and 11.3: trees of stretches by the tree alone, the seam of two rows, all trees of two put together."""

import itertools
import math
import unittest

from dipkin.errors import NoPlace, NoTree, TooMany
from dipkin.joined import joined_trees, seam, tree_within
from tests import plain


def drops(row):
    """For each place how many places stop being open as it comes."""
    told, still = [], []
    for number in row:
        left = [other for other in still if other <= number]
        told.append(len(still) - len(left))
        still = left + [number]
    return tuple(told)


def by_drops(tree):
    """By which trees of as many places are put in order."""
    return drops(plain.flat(tree))


def seam_plain(one, other):
    own = list(plain.tree(one)) + [elder if elder == -1 else elder + len(one) for elder in plain.tree(other)]
    now = plain.tree(tuple(one) + tuple(other))
    return [(place, own[place], now[place]) for place in range(len(now)) if own[place] != now[place]]


def rising(many):
    return tuple(range(-1, many - 1))


def falling(many):
    return tuple(range(1, many)) + (-1,) if many else ()


def how_many(one, other):
    """How many trees 11.3 tells of two trees."""
    p = len(plain.over(one, len(one) - 1)) + 1 if one else 0
    q = len(plain.over(other, 0)) + 1 if other else 0
    return math.comb(p + q, p)


class Within(plain.Case):
    def test_by_hand(self):
        self.assertEqual(tree_within((-1,), 0, 0), (-1,))
        self.assertEqual(tree_within((1, -1, 3, 1, 3), 0, 4), (1, -1, 3, 1, 3))
        self.assertEqual(tree_within((1, -1, 3, 1, 3), 2, 4), (1, -1, 1))
        self.assertEqual(tree_within((1, -1, 3, 1, 3), 2, 2), (-1,))
        self.assertEqual(tree_within((1, -1, 3, 1, 3), 0, 1), (1, -1))

    def test_all_stretches(self):
        rows = [row for many in range(1, 5) for row in plain.all_rows(many, 3)]
        rows += [row for row in plain.some_rows() if 0 < len(row) <= 40]
        for row in rows:
            tree = plain.tree(row)
            for a, b in plain.stretches(len(row)) if len(row) < 12 else plain.stretches(len(row))[::11]:
                told = tree_within(tree, a, b)
                self.assertIsInstance(told, tuple)
                self.assertEqual(told, plain.tree(row[a:b + 1]))
            self.assertEqual(tree_within(tree, 0, len(row) - 1), tree)

    def test_no_tree_ahead_of_no_place(self):
        for tree in plain.no_trees():
            for a, b in ((0, 0), (-1, 0), (1, 0), plain.FAR[:2], (0, len(tree))):
                self.refused(NoTree, tree_within, tree, a, b)

    def test_no_place(self):
        for many in (0, 1, 2, 5, 40):
            for a, b in plain.some_pairs(many):
                self.refused(NoPlace, tree_within, rising(many), a, b)

    def test_few_steps(self):
        for tree in plain.some_trees()[-40:]:
            if tree:
                self.few_steps(tree_within, tree, 0, len(tree) - 1)


class Seam(plain.Case):
    def test_by_hand(self):
        self.assertEqual(seam((1,), (0,)), [(0, -1, 1)])
        self.assertEqual(seam((0,), (1,)), [(1, -1, 0)])
        self.assertEqual(seam((0,), (0,)), [(1, -1, 0)])
        self.assertEqual(seam((), ()), [])
        self.assertEqual(seam((), (2, 1)), [])
        self.assertEqual(seam([2, 1], []), [])
        self.assertEqual(seam((0, 2), (3, 1)), [(1, 0, 3), (2, 3, 1), (3, -1, 0)])

    def test_as_the_words_say(self):
        small = [row for many in range(4) for row in plain.all_rows(many, 3)]
        pairs = list(itertools.product(small, small))
        great = [row for row in plain.some_rows() if len(row) <= 40]
        pairs += [(row[:cut], row[cut:]) for row in great for cut in (0, 1, len(row) // 2, len(row))]
        for one, other in pairs:
            told = seam(one, other)
            self.assertEqual(told, seam_plain(one, other))
            self.assertEqual(seam(list(one), other), told)
            self.assertEqual(seam(one, list(other)), told)
            self.assertIsInstance(told, list)
            self.assertTrue(all(type(entry) is tuple for entry in told))

    def test_they_are_on_the_ways_up(self):
        for row in plain.some_rows():
            one, other = row[:len(row) // 2], row[len(row) // 2:]
            if one:
                last = {len(one) - 1} | plain.over(plain.tree(one), len(one) - 1)
                first = {len(one) + place for place in {0} | plain.over(plain.tree(other), 0)}
                self.assertLessEqual({place for place, own, now in seam(one, other)}, last | first)

    def test_new_each_time_and_nothing_changed(self):
        one, other = [0, 2], [3, 1]
        self.new_each_time(seam, one, other)
        self.assertEqual((one, other), ([0, 2], [3, 1]))

    def test_few_steps(self):
        for one, other in (((0,) * 20, (0,) * 20), (tuple(range(40)), ()), (tuple(range(20)), tuple(range(20, 0, -1)))):
            self.few_steps(seam, one, other)


class Joined(plain.Case):
    def as_told(self, one, other):
        told = joined_trees(one, other)
        self.assertIsInstance(told, list)
        self.assertEqual(len(told), how_many(one, other))
        order = [by_drops(tree) for tree in told]
        self.assertEqual(order, sorted(set(order)))
        cut = len(one)
        for tree in told:
            self.assertIsInstance(tree, tuple)
            row = plain.flat(tree)
            self.assertEqual((plain.tree(row), plain.tree(row[:cut]), plain.tree(row[cut:])), (tree, one, other))
        return told

    def test_by_hand(self):
        self.assertEqual(joined_trees((), ()), [()])
        self.assertEqual(joined_trees((-1,), ()), [(-1,)])
        self.assertEqual(joined_trees((), (1, -1)), [(1, -1)])
        self.assertEqual(joined_trees((-1,), (-1,)), [(-1, 0), (1, -1)])
        self.assertEqual(joined_trees((-1, 0), (-1,)), [(-1, 0, 1), (-1, 2, 0), (2, 0, -1)])
        self.assertEqual(joined_trees((1, -1), (-1, 0)), [(1, -1, 1, 2), (1, 2, -1, 2)])

    def test_all_rows_gone_through(self):
        for many, more in itertools.product(range(5), repeat=2):
            if many + more <= 6:
                found = {}
                for row in plain.all_rows(many + more, max(many + more, 1)):
                    pair = (plain.tree(row[:many]), plain.tree(row[many:]))
                    found.setdefault(pair, set()).add(plain.tree(row))
                for one, other in itertools.product(plain.all_trees(many), plain.all_trees(more)):
                    wanted = sorted(found[(one, other)], key=by_drops)
                    self.assertEqual(self.as_told(one, other), wanted)

    def test_one_tree_alone(self):
        for tree in plain.some_trees():
            self.assertEqual(joined_trees(tree, ()), [tree])
            self.assertEqual(joined_trees((), tree), [tree])

    def test_near_five_hundred(self):
        # There are 496 of 2 and 30, 495 of 4 and 8; 528 of 2 and 31, 715 of 4 and 9.
        for p, q in ((2, 30), (30, 2), (4, 8), (8, 4), (1, 39), (39, 1), (5, 6)):
            self.as_told(rising(p), falling(q))
        for p, q in ((2, 31), (31, 2), (4, 9), (9, 4), (5, 7), (6, 6), (20, 20), (3, 37), (38, 2)):
            self.refused(TooMany, joined_trees, rising(p), falling(q))

    def test_forty_and_forty_one_places(self):
        for one, other in ((falling(20), rising(20)), (falling(39), rising(1)), (falling(1), rising(39)),
                           (rising(40), ()), ((), falling(40)), (falling(30), falling(10)), (rising(3), rising(37))):
            self.as_told(one, other)
        for one, other in ((falling(20), rising(21)), (falling(40), rising(1)), (falling(1), rising(40)),
                           (falling(40), rising(40)), (rising(40), rising(1)), (falling(2), falling(39))):
            self.refused(TooMany, joined_trees, one, other)

    def test_some_trees_together(self):
        trees = [tree for tree in plain.some_trees() if len(tree) <= 40]
        for at, one in enumerate(trees[::5]):
            other = trees[(at * 17 + 3) % len(trees)]
            if len(one) + len(other) > 40 or how_many(one, other) > 500:
                self.refused(TooMany, joined_trees, one, other)
            else:
                self.as_told(one, other)

    def test_no_tree_of_the_one_then_of_the_other(self):
        for bad in plain.no_trees():
            for tree in ((), (-1,), rising(40), falling(40)):
                self.refused(NoTree, joined_trees, bad, tree)
                self.refused(NoTree, joined_trees, tree, bad)
            self.refused(NoTree, joined_trees, bad, bad)

    def test_new_each_time(self):
        self.new_each_time(joined_trees, (-1, 0), (-1,))
        self.new_each_time(joined_trees, (), ())

    def test_few_steps(self):
        for p, q in ((2, 30), (30, 2), (4, 8), (8, 4), (1, 39), (5, 6), (3, 12), (3, 37), (20, 20)):
            if math.comb(p + q, p) <= 500:
                self.few_steps(joined_trees, rising(p), falling(q))


if __name__ == "__main__":
    unittest.main()
