"""4.1: the trees of n places in the order of their drops, by number."""

import random
import unittest

from dipkin.counts import many_trees
from dipkin.errors import NoNumber, NoTree, TooMany
from dipkin.numbers import number_of, tree_at
from dipkin.tellings import drops_of
from tests import plain


def drops_plain(tree):
    """By the words of 2.2, of the depths, which are a row of the tree."""
    row = [len(plain.over(tree, place)) for place in range(len(tree))]
    still = []
    drops = []
    for number in row:
        drops.append(len([one for one in still if one > number]))
        still = [one for one in still if one <= number] + [number]
    return tuple(drops)


class TreeAt(plain.Case):
    def test_by_hand(self):
        self.assertEqual(tree_at(0, 0), ())
        self.assertEqual(tree_at(1, 0), (-1,))
        self.assertEqual([tree_at(2, number) for number in range(2)], [(-1, 0), (1, -1)])
        self.assertEqual([drops_of(tree_at(3, number)) for number in range(5)],
                         [(0, 0, 0), (0, 0, 1), (0, 0, 2), (0, 1, 0), (0, 1, 1)])

    def test_each_small_tree_once_in_the_order_of_drops(self):
        for many in range(8):
            trees = sorted(plain.all_trees(many), key=drops_plain)
            self.assertEqual([tree_at(many, number) for number in range(len(trees))], trees)
            self.assertEqual([number_of(tree) for tree in trees], list(range(len(trees))))

    def test_first_and_last(self):
        for many in (1, 2, 12, 13, 39, 40):
            count = many_trees(many)
            rising = tuple(range(-1, many - 1))
            falling = tuple(range(1, many)) + (-1,)
            self.assertEqual(tree_at(many, 0), rising)
            self.assertEqual(number_of(rising), 0)
            # The last tree: the second place drops the first, each later one the place ahead of it.
            self.assertEqual(tree_at(many, count - 1), falling)
            self.assertEqual(number_of(falling), count - 1)

    def test_it_leads_back_and_keeps_the_order(self):
        source = random.Random(4)
        for many in (12, 13, 25, 39, 40):
            count = many_trees(many)
            numbers = sorted({0, 1, 2, count // 2, count - 2, count - 1} | {source.randrange(count) for _ in range(20)})
            trees = [tree_at(many, number) for number in numbers]
            self.assertEqual([number_of(tree) for tree in trees], numbers)
            drops = [drops_plain(tree) for tree in trees]
            self.assertEqual(drops, sorted(drops))
            for tree in trees:
                self.assertIsInstance(tree, tuple)
                self.assertEqual(len(tree), many)
                self.assertEqual(plain.tree([len(plain.over(tree, place)) for place in range(many)]), tree)

    def test_neighbours(self):
        for many in (12, 13, 40):
            for number in (0, 1, 9, many_trees(many) // 3, many_trees(many) - 2):
                self.assertLess(drops_plain(tree_at(many, number)), drops_plain(tree_at(many, number + 1)))

    def test_too_many_ahead_of_no_number(self):
        for many in (-1, -40, 41, 42) + plain.FAR:
            for number in (-1, 0, 1, 10 ** 20) + plain.FAR:
                self.refused(TooMany, tree_at, many, number)

    def test_no_number(self):
        for many in (0, 1, 2, 12, 13, 39, 40):
            for number in (-1, -2, many_trees(many), many_trees(many) + 1) + plain.FAR:
                self.refused(NoNumber, tree_at, many, number)

    def test_few_steps(self):
        for number in (0, many_trees(40) // 2, many_trees(40) - 1):
            self.few_steps(tree_at, 40, number)


class NumberOf(plain.Case):
    def test_of_many_trees(self):
        for tree in plain.some_trees():
            number = number_of(tree)
            self.assertIs(type(number), int)
            self.assertTrue(0 <= number < many_trees(len(tree)))
            self.assertEqual(tree_at(len(tree), number), tree)

    def test_no_tree(self):
        for tree in plain.no_trees():
            self.refused(NoTree, number_of, tree)
        self.refused(NoTree, number_of, tuple(range(-1, 40)))

    def test_few_steps(self):
        for tree in plain.some_trees()[-80:]:
            self.few_steps(number_of, tree)


if __name__ == "__main__":
    unittest.main()
