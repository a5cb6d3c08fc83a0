"""5.1 and 5.2: the rows of a tree over m, and its orders."""

import itertools
import math
import random
import unittest

from dipkin.errors import NoNumber, NoTree, TooMany
from dipkin.fills import many_orders, many_rows, number_of_row, row_at
from dipkin.flattest import flattest
from tests import plain

FAR_BOUNDS = (-1, -2, -12, 13, 14, 40) + plain.FAR


def rising(many):
    return tuple(range(-1, many - 1))


def falling(many):
    return tuple(range(1, many)) + (-1,)


def zigzag(many):
    """A tree that hangs on one side and the other in turn."""
    return plain.tree([min(place, many - 1 - place) for place in range(many)][::-1])


def chance_trees(many, count, seed):
    source = random.Random(seed)
    return [plain.tree([source.randrange(many) for _ in range(many)]) for _ in range(count)]


def twelves():
    return [rising(12), falling(12), zigzag(12)] + chance_trees(12, 8, 2)


def ways_plain(tree, m):
    """How many rows: each place that hangs ahead of its elder is above it, each behind is not below it."""
    def ways(place, least):
        total = 0
        for number in range(least, m):
            product = 1
            for other, elder in enumerate(tree):
                if elder == place:
                    product *= known(other, number + (other < place))
            total += product
        return total

    table = {}

    def known(place, least):
        if (place, least) not in table:
            table[place, least] = ways(place, least)
        return table[place, least]

    return known(tree.index(-1), 0) if tree else 1


class SmallOnes(plain.Case):
    def test_by_hand(self):
        self.assertEqual(many_rows((-1,), 3), 3)
        self.assertEqual(many_rows((-1, 0), 3), 6)
        self.assertEqual(many_rows((1, -1), 3), 3)
        self.assertEqual([row_at((1, -1), 3, number) for number in range(3)], [(1, 0), (2, 0), (2, 1)])
        self.assertEqual([row_at((-1, 0), 2, number) for number in range(3)], [(0, 0), (0, 1), (1, 1)])
        self.assertEqual(number_of_row((2, 0), 3), 1)
        self.assertEqual(number_of_row([0, 1], 2), 1)

    def test_each_row_once_at_its_number(self):
        for many, most in ((0, 3), (1, 5), (2, 5), (3, 5), (4, 5), (5, 4), (6, 3)):
            for m in range(most + 1):
                kept = {tree: [] for tree in plain.all_trees(many)}
                for row in plain.all_rows(many, m):
                    kept[plain.tree(row)].append(row)
                for tree, rows in kept.items():
                    rows.sort()
                    self.assertEqual(many_rows(tree, m), len(rows), (tree, m))
                    self.assertEqual([row_at(tree, m, number) for number in range(len(rows))], rows, (tree, m))
                    self.assertEqual([number_of_row(row, m) for row in rows], list(range(len(rows))), (tree, m))
                    self.refused(NoNumber, row_at, tree, m, len(rows))
                    self.refused(NoNumber, row_at, tree, m, -1)

    def test_the_flattest_is_the_first(self):
        for tree in [tree for many in range(7) for tree in plain.all_trees(many)] + twelves():
            for m in (0, 1, 2, 5, 12):
                if m > max(flattest(tree), default=-1):
                    self.assertEqual(row_at(tree, m, 0), flattest(tree))
                    self.assertEqual(number_of_row(flattest(tree), m), 0)
                else:
                    self.assertEqual(many_rows(tree, m), 0)
                    self.refused(NoNumber, row_at, tree, m, 0)


class Edges(plain.Case):
    def test_no_place(self):
        for m in range(13):
            self.assertEqual(many_rows((), m), 1)
            self.assertEqual(row_at((), m, 0), ())
            self.assertEqual(number_of_row((), m), 0)
            self.assertEqual(number_of_row([], m), 0)
            for number in (-1, 1) + plain.FAR:
                self.refused(NoNumber, row_at, (), m, number)

    def test_one_place(self):
        for m in range(13):
            self.assertEqual(many_rows((-1,), m), m)
            self.assertEqual([row_at((-1,), m, number) for number in range(m)], [(number,) for number in range(m)])

    def test_over_0_and_1(self):
        for many in range(1, 13):
            self.assertEqual(many_rows(rising(many), 0), 0)
            self.assertEqual(many_rows(rising(many), 1), 1)
            self.assertEqual(row_at(rising(many), 1, 0), (0,) * many)
            self.assertEqual(many_rows(falling(many), 1), 1 if many == 1 else 0)
            self.refused(NoNumber, row_at, rising(many), 0, 0)

    def test_twelve_places_over_twelve(self):
        self.assertEqual(many_rows(rising(12), 12), math.comb(23, 12))
        self.assertEqual(many_rows(falling(12), 12), 1)
        self.assertEqual(row_at(falling(12), 12, 0), tuple(range(11, -1, -1)))
        self.assertEqual(row_at(rising(12), 12, math.comb(23, 12) - 1), (11,) * 12)

    def test_twelve_places_lead_back_in_order(self):
        source = random.Random(8)
        for tree in twelves():
            for m in (1, 2, 7, 11, 12):
                count = many_rows(tree, m)
                self.assertEqual(count, ways_plain(tree, m))
                if count:
                    numbers = {0, 1, count // 2, count - 2, count - 1} | {source.randrange(count) for _ in range(9)}
                    numbers = sorted(number for number in numbers if 0 <= number < count)
                    rows = [row_at(tree, m, number) for number in numbers]
                    self.assertEqual(rows, sorted(rows))
                    self.assertEqual([number_of_row(row, m) for row in rows], numbers)
                    self.assertEqual([number_of_row(list(row), m) for row in rows], numbers)
                    for row in rows:
                        self.assertIsInstance(row, tuple)
                        self.assertEqual(plain.tree(row), tree)
                        self.assertTrue(all(0 <= number < m for number in row))

    def test_neighbours_leave_none_between(self):
        for tree in twelves():
            count = many_rows(tree, 12)
            for number in (0, count // 3, count - 2):
                if 0 <= number < count - 1:
                    self.assertLess(row_at(tree, 12, number), row_at(tree, 12, number + 1))


class Refused(plain.Case):
    def test_no_tree_ahead_of_all(self):
        for tree in plain.no_trees():
            for m in (0, 1, 12, 13, -1) + plain.FAR:
                self.refused(NoTree, many_rows, tree, m)
                for number in (0, -1) + plain.FAR:
                    self.refused(NoTree, row_at, tree, m, number)
            self.refused(NoTree, many_orders, tree)

    def test_too_many_ahead_of_no_number(self):
        for many in (13, 14, 39, 40):
            for tree in (rising(many), falling(many), zigzag(many)):
                for m in (0, 1, 12, 13, -1) + plain.FAR:
                    self.refused(TooMany, many_rows, tree, m)
                    for number in (0, -1) + plain.FAR:
                        self.refused(TooMany, row_at, tree, m, number)
        for many in (0, 1, 2, 11, 12):
            for m in FAR_BOUNDS:
                self.refused(TooMany, many_rows, rising(many), m)
                for number in (0, -1, 1) + plain.FAR:
                    self.refused(TooMany, row_at, rising(many), m, number)

    def test_no_number(self):
        for tree in [(), (-1,), rising(12), falling(12), zigzag(12)]:
            for m in (0, 1, 12):
                for number in (-1, many_rows(tree, m), many_rows(tree, m) + 1) + plain.FAR:
                    self.refused(NoNumber, row_at, tree, m, number)

    def test_of_a_row(self):
        for row in ((0,) * 13, (0,) * 40, (0,) * 41, (-1,) * 13, [5] * 14):
            for m in (0, 1, 12, 13, -1):
                self.refused(TooMany, number_of_row, row, m)
        for m in FAR_BOUNDS:
            for row in ((), (0,), [0] * 12, (-1,), (plain.BIG,)):
                self.refused(TooMany, number_of_row, row, m)
        for m in (0, 1, 2, 12):
            for wrong in (-1, m, m + 1, plain.BIG, -plain.BIG) + plain.FAR:
                for row in ((wrong,), (0, wrong), (wrong, 0), (0,) * 11 + (wrong,), [0] * 5 + [wrong] + [0] * 6):
                    self.refused(NoNumber, number_of_row, row, m)

    def test_a_row_is_left_as_it_was(self):
        row = [3, 1, 2, 1, 5]
        self.assertIs(type(number_of_row(row, 7)), int)
        self.assertEqual(row, [3, 1, 2, 1, 5])

    def test_few_steps(self):
        for tree in twelves():
            self.few_steps(many_rows, tree, 12)
            for number in (0, many_rows(tree, 12) - 1):
                if number >= 0:
                    self.few_steps(row_at, tree, 12, number)
                    self.few_steps(number_of_row, row_at(tree, 12, number), 12)


class Orders(plain.Case):
    def test_all_small_trees(self):
        for many in range(8):
            counts = {tree: 0 for tree in plain.all_trees(many)}
            for row in itertools.permutations(range(many)):
                counts[plain.tree(row)] += 1
            for tree, count in counts.items():
                self.assertEqual(many_orders(tree), count)

    def test_up_to_forty(self):
        for many in (12, 13, 39, 40):
            self.assertEqual(many_orders(rising(many)), 1)
            self.assertEqual(many_orders(falling(many)), 1)
        for tree in plain.some_trees():
            product = math.prod(1 + len([place for place in range(len(tree)) if top in plain.over(tree, place)])
                                for top in range(len(tree)))
            told = many_orders(tree)
            self.assertIs(type(told), int)
            self.assertEqual(told * product, math.factorial(len(tree)))

    def test_few_steps(self):
        for tree in (rising(40), falling(40), zigzag(40)):
            self.few_steps(many_orders, tree)


if __name__ == "__main__":
    unittest.main()
