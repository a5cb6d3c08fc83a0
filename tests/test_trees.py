"""1.2, 1.3 and what 0.2 to 0.4 say of them: trees of rows, elders, which tuples are trees."""

import itertools
import unittest

from dipkin.errors import NoPlace, NoTree
from dipkin.trees import elders_of, is_tree, tree_of
from tests import plain


def elder_by_neighbours(row, place):
    """By the last words of 1.2: the nearest earlier one not above, the nearest later lesser one."""
    ahead = [at for at in range(place) if row[at] <= row[place]][-1:]
    behind = [at for at in range(place + 1, len(row)) if row[at] < row[place]][:1]
    return max(ahead + behind, key=lambda at: (row[at], at), default=-1)


class TreeOf(plain.Case):
    def test_by_hand(self):
        self.assertEqual(tree_of(()), ())
        self.assertEqual(tree_of([]), ())
        self.assertEqual(tree_of((7,)), (-1,))
        self.assertEqual(tree_of((1, 1)), (-1, 0))
        self.assertEqual(tree_of((1, 0)), (1, -1))
        self.assertEqual(tree_of([3, 1, 2, 1, 5]), (1, -1, 3, 1, 3))
        self.assertEqual(tree_of((2, 1, 2)), (1, -1, 1))
        self.assertEqual(tree_of((1, 2, 1)), (-1, 2, 0))

    def test_forty_and_one_more(self):
        for many in (40, 41):
            self.assertEqual(tree_of((6,) * many), tuple(range(-1, many - 1)))
            self.assertEqual(tree_of(list(range(many, 0, -1))), tuple(range(1, many)) + (-1,))

    def test_by_the_tops(self):
        for row in plain.some_rows() + [row for many in range(6) for row in plain.all_rows(many, 4)]:
            told = tree_of(row)
            self.assertIsInstance(told, tuple)
            self.assertEqual(told, plain.tree(row))
            self.assertEqual(tree_of(list(row)), told)

    def test_by_the_neighbours(self):
        for row in plain.some_rows():
            self.assertEqual(tree_of(row), tuple(elder_by_neighbours(row, place) for place in range(len(row))))

    def test_nothing_is_changed(self):
        row = [3, 1, 2, 1, 5]
        tree_of(row)
        self.assertEqual(row, [3, 1, 2, 1, 5])

    def test_few_steps(self):
        for row in plain.edge_rows():
            self.few_steps(tree_of, row)


class IsTree(plain.Case):
    def test_trees_of_rows(self):
        for tree in plain.some_trees():
            self.assertIs(is_tree(tree), True, tree)

    def test_all_small_tuples(self):
        for many in range(5):
            trees = plain.all_trees(many)
            for told in itertools.product(range(-2, many + 1), repeat=many):
                self.assertIs(is_tree(told), told in trees, told)

    def test_no_trees(self):
        for told in plain.no_trees():
            self.assertIs(is_tree(told), False, told)

    def test_forty_one_places_are_none(self):
        for row in plain.edge_rows():
            self.assertIs(is_tree(plain.tree(row)), len(row) <= 40)

    def test_a_list_is_none(self):
        self.assertIs(is_tree([-1, 0]), False)
        self.assertIs(is_tree([]), False)

    def test_one_elder_changed_in_forty(self):
        for row in plain.edge_rows():
            tree = plain.tree(row)
            if len(tree) == 40:
                for place in range(40):
                    for elder in (-2, -1, 0, 20, 39, 40):
                        told = tree[:place] + (elder,) + tree[place + 1:]
                        self.assertIs(is_tree(told), plain.tree([len(plain.over(tree, at)) for at in range(40)]) == told)

    def test_few_steps(self):
        for told in plain.no_trees() + plain.some_trees()[-30:]:
            self.few_steps(is_tree, told)


class EldersOf(plain.Case):
    def test_by_hand(self):
        self.assertEqual(elders_of((-1,), 0), [])
        self.assertEqual(elders_of((1, -1, 3, 1, 3), 4), [3, 1])
        self.assertEqual(elders_of((1, -1, 3, 1, 3), 1), [])
        self.assertEqual(elders_of(tuple(range(-1, 39)), 39), list(range(38, -1, -1)))

    def test_each_place(self):
        for tree in plain.some_trees():
            for place in range(len(tree)):
                told = elders_of(tree, place)
                self.assertEqual(set(told), plain.over(tree, place))
                way = [place] + told
                self.assertEqual([tree[at] for at in way], way[1:] + [-1])

    def test_under_a_place_is_a_stretch_with_it_as_low(self):
        for row in plain.some_rows():
            if len(row) <= 40:
                tree = tree_of(row)
                for place in range(len(row)):
                    under = [at for at in range(len(row)) if place in [at] + elders_of(tree, at)]
                    self.assertEqual(under, list(range(under[0], under[-1] + 1)))
                    self.assertEqual(plain.low(row, under[0], under[-1]), place)

    def test_new_each_time(self):
        self.new_each_time(elders_of, (1, -1, 3, 1, 3), 4)

    def test_no_place(self):
        for tree in ((), (-1,), (1, -1, 3, 1, 3), tuple(range(-1, 39))):
            for place in (-1, len(tree), -len(tree) - 1) + plain.FAR:
                self.refused(NoPlace, elders_of, tree, place)

    def test_no_tree_comes_ahead_of_no_place(self):
        for told in plain.no_trees():
            for place in (0, -1, 100) + plain.FAR:
                self.refused(NoTree, elders_of, told, place)


if __name__ == "__main__":
    unittest.main()
