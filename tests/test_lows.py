"""3.1 and 3.2: lows by the tree alone, spans, shares, the sum of all leasts."""

import unittest

from dipkin.errors import NoPlace, NoTree
from dipkin.lows import leasts_sum, low_by, shares_of, spans_of
from dipkin.tellings import brackets_of, by_brackets, by_distances, by_drops, distances_of, drops_of
from tests import plain


def small_and_some_rows():
    return plain.some_rows() + [row for many in range(6) for row in plain.all_rows(many, 3)]


class LowBy(plain.Case):
    def test_by_hand(self):
        self.assertEqual(low_by((-1,), 0, 0), 0)
        self.assertEqual(low_by((1, -1, 3, 1, 3), 2, 4), 3)
        self.assertEqual(low_by((1, -1, 3, 1, 3), 0, 4), 1)
        self.assertEqual(low_by((1, -1, 3, 1, 3), 4, 4), 4)

    def test_each_stretch(self):
        for row in small_and_some_rows():
            if len(row) <= 40:
                tree = plain.tree(row)
                for (a, b), place in plain.lows(row).items():
                    self.assertEqual(low_by(tree, a, b), place)

    def test_what_is_told_in_short_leads_to_each_low(self):
        for row in plain.chance_rows(30, 12, 3):
            tree = plain.tree(row)
            for again in (by_distances(distances_of(tree)), by_drops(drops_of(tree)), by_brackets(brackets_of(tree))):
                for (a, b), place in plain.lows(row).items():
                    self.assertEqual(low_by(again, a, b), place)

    def test_no_place(self):
        for tree in ((), (-1,), (1, -1, 3, 1, 3), tuple(range(-1, 39))):
            for a, b in plain.some_pairs(len(tree)):
                self.refused(NoPlace, low_by, tree, a, b)

    def test_no_tree_comes_ahead_of_no_place(self):
        for told in plain.no_trees():
            for a, b in [(0, 0), (-1, 0), (1, 0), (0, 100), (plain.BIG, 0), (0, -10 ** 5000)]:
                self.refused(NoTree, low_by, told, a, b)

    def test_few_steps(self):
        for tree in plain.some_trees()[-40:]:
            if tree:
                self.few_steps(low_by, tree, 0, len(tree) - 1)


class Spans(plain.Case):
    def test_by_hand(self):
        self.assertEqual(spans_of(()), [])
        self.assertEqual(spans_of((-1,)), [(0, 0)])
        self.assertEqual(spans_of((1, -1, 3, 1, 3)), [(0, 0), (0, 4), (2, 2), (2, 4), (4, 4)])

    def test_the_greatest_stretch_of_which_it_is_the_low(self):
        for row in small_and_some_rows():
            if len(row) <= 40:
                wanted = [None] * len(row)
                for (a, b), place in plain.lows(row).items():
                    if wanted[place] is None or b - a > wanted[place][1] - wanted[place][0]:
                        wanted[place] = (a, b)
                self.assertEqual(spans_of(plain.tree(row)), wanted)

    def test_itself_and_all_places_under_it(self):
        for tree in plain.some_trees():
            for place, (a, b) in enumerate(spans_of(tree)):
                under = [at for at in range(len(tree)) if at == place or place in plain.over(tree, at)]
                self.assertEqual(under, list(range(a, b + 1)))

    def test_new_each_time(self):
        self.new_each_time(spans_of, (1, -1, 3, 1, 3))

    def test_no_tree(self):
        for told in plain.no_trees():
            self.refused(NoTree, spans_of, told)


class Shares(plain.Case):
    def test_by_hand(self):
        self.assertEqual(shares_of(()), [])
        self.assertEqual(shares_of((-1,)), [1])
        self.assertEqual(shares_of((1, -1, 3, 1, 3)), [1, 8, 1, 4, 1])
        self.assertEqual(shares_of(tuple(range(-1, 39))), list(range(40, 0, -1)))

    def test_of_how_many_stretches_it_is_the_low(self):
        for row in small_and_some_rows():
            if len(row) <= 40:
                lows = list(plain.lows(row).values())
                told = shares_of(plain.tree(row))
                self.assertEqual(told, [lows.count(place) for place in range(len(row))])
                self.assertEqual(sum(told), len(row) * (len(row) + 1) // 2)

    def test_new_each_time(self):
        self.new_each_time(shares_of, (1, -1, 3, 1, 3))

    def test_no_tree(self):
        for told in plain.no_trees():
            self.refused(NoTree, shares_of, told)


class LeastsSum(plain.Case):
    def test_by_hand(self):
        self.assertEqual(leasts_sum(()), 0)
        self.assertEqual(leasts_sum([]), 0)
        self.assertEqual(leasts_sum((-plain.BIG,)), -plain.BIG)
        self.assertEqual(leasts_sum((3, 1, 2)), 3 + 1 + 2 + 1 + 1 + 1)
        self.assertEqual(leasts_sum([plain.BIG] * 40), plain.BIG * 820)

    def test_all_leasts_added(self):
        for row in small_and_some_rows():
            wanted = sum(min(row[a:b + 1]) for a, b in plain.stretches(len(row)))
            self.assertEqual(leasts_sum(row), wanted)
            self.assertEqual(leasts_sum(list(row)), wanted)

    def test_nothing_is_changed(self):
        row = [3, 1, 2]
        leasts_sum(row)
        self.assertEqual(row, [3, 1, 2])

    def test_few_steps(self):
        for row in plain.edge_rows():
            self.few_steps(leasts_sum, row)


if __name__ == "__main__":
    unittest.main()
