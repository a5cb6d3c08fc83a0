"""4.1 (how many places a tree may have) and 4.2: counts of trees."""

import collections
import math
import unittest

from dipkin.counts import many_falls, many_flat, many_open, many_trees
from dipkin.errors import TooMany
from dipkin.flattest import flattest
from tests import plain

ENDS = (-2, -1, 0, 1, 2, 38, 39, 40, 41, 42) + plain.FAR


def grown_counts(many):
    """For each pair of open places and falls how many trees there are, by their drops one by one."""
    table = {(0, 0): 1}
    for _ in range(many):
        after = collections.Counter()
        for (still, falls), ways in table.items():
            for drop in range(still + 1):
                after[still - drop + 1, falls + (drop > 0)] += ways
        table = after
    return table


def open_of(row):
    """How many places of a row are followed by no lesser number."""
    return len([at for at in range(len(row)) if all(number >= row[at] for number in row[at:])])


class Counts(plain.Case):
    def test_by_hand(self):
        self.assertEqual([many_trees(n) for n in range(7)], [1, 1, 2, 5, 14, 42, 132])
        self.assertEqual([many_open(4, k) for k in range(6)], [0, 5, 5, 3, 1, 0])
        self.assertEqual([many_falls(4, k) for k in range(5)], [1, 6, 6, 1, 0])
        self.assertEqual([many_flat(4, most) for most in range(5)], [1, 8, 13, 14, 14])

    def test_all_small_trees(self):
        for many in range(8):
            trees = plain.all_trees(many)
            rows = [flattest(tree) for tree in trees]
            self.assertEqual(many_trees(many), len(trees))
            for k in range(-2, many + 3):
                falls = [len([at for at in range(1, many) if row[at] < row[at - 1]]) for row in rows]
                self.assertEqual(many_open(many, k), len([row for row in rows if open_of(row) == k]), (many, k))
                self.assertEqual(many_falls(many, k), falls.count(k), (many, k))
                self.assertEqual(many_flat(many, k), len([row for row in rows if max(row, default=k) <= k]), (many, k))

    def test_up_to_forty(self):
        for many in (0, 1, 2, 13, 39, 40):
            table = grown_counts(many)
            self.assertEqual(many_trees(many), sum(table.values()))
            self.assertEqual(many_trees(many), math.comb(2 * many, many) // (many + 1))
            for k in range(-1, many + 2):
                self.assertEqual(many_open(many, k), sum(ways for (still, _), ways in table.items() if still == k))
                self.assertEqual(many_falls(many, k), sum(ways for (_, falls), ways in table.items() if falls == k))

    def test_flat_up_to_forty(self):
        for many in (1, 2, 13, 39, 40):
            for most in range(many + 2):
                ways = {0: 1}
                for _ in range(many - 1):
                    after = collections.Counter()
                    for last, count in ways.items():
                        for number in range(min(last + 1, most) + 1):
                            after[number] += count
                    ways = after
                self.assertEqual(many_flat(many, most), sum(ways.values()))

    def test_of_no_places(self):
        self.assertEqual(many_trees(0), 1)
        for k in ENDS:
            self.assertEqual(many_open(0, k), 1 if k == 0 else 0)
            self.assertEqual(many_falls(0, k), 1 if k == 0 else 0)
            self.assertEqual(many_flat(0, k), 1)

    def test_at_the_ends_and_beyond(self):
        for many in (1, 2, 40):
            for k in ENDS:
                if k < 0:
                    self.assertEqual((many_open(many, k), many_falls(many, k), many_flat(many, k)), (0, 0, 0))
                if k > many:
                    self.assertEqual((many_open(many, k), many_falls(many, k)), (0, 0))
                    self.assertEqual(many_flat(many, k), many_trees(many))
            self.assertEqual((many_open(many, 0), many_open(many, many)), (0, 1))
            self.assertEqual((many_falls(many, 0), many_falls(many, many - 1), many_falls(many, many)), (1, 1, 0))
            self.assertEqual(many_flat(many, 0), 1)
            self.assertEqual(many_flat(many, many - 1), many_trees(many))

    def test_too_many(self):
        for many in (-1, 41, 42, -40) + plain.FAR:
            self.refused(TooMany, many_trees, many)
            for k in ENDS:
                for count in (many_open, many_falls, many_flat):
                    self.refused(TooMany, count, many, k)

    def test_few_steps(self):
        self.few_steps(many_trees, 40)
        for k in (0, 1, 20, 39, 40, 10 ** 59):
            for count in (many_open, many_falls, many_flat):
                self.few_steps(count, 40, k)


if __name__ == "__main__":
    unittest.main()
