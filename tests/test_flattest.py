"""2.5: flat numbers and the flattest row."""

import itertools
import unittest

from dipkin.errors import NoTree
from dipkin.flattest import flattest
from dipkin.trees import tree_of
from tests import plain


class Flattest(plain.Case):
    def test_by_hand(self):
        self.assertEqual(flattest(()), ())
        self.assertEqual(flattest((-1,)), (0,))
        self.assertEqual(flattest((-1, 0)), (0, 0))
        self.assertEqual(flattest((1, -1)), (1, 0))
        self.assertEqual(flattest((1, -1, 3, 1, 3)), (1, 0, 1, 0, 0))
        self.assertEqual(flattest(tuple(range(1, 40)) + (-1,)), tuple(range(39, -1, -1)))
        self.assertEqual(flattest(tuple(range(-1, 39))), (0,) * 40)

    def test_how_many_over_it_stand_behind_it(self):
        for tree in plain.some_trees():
            told = flattest(tree)
            self.assertIsInstance(told, tuple)
            wanted = [len([at for at in plain.over(tree, place) if at > place]) for place in range(len(tree))]
            self.assertEqual(list(told), wanted)

    def test_it_is_a_row_of_the_tree(self):
        for tree in plain.some_trees():
            self.assertEqual(tree_of(flattest(tree)), tree)
            self.assertEqual(plain.tree(flattest(tree)), tree)

    def test_no_row_from_0_on_is_lower_anywhere(self):
        for many in range(6):
            least = {}
            for row in plain.all_rows(many, many):
                tree = plain.tree(row)
                least[tree] = tuple(map(min, row, least.get(tree, row)))
            for tree in plain.all_trees(many):
                self.assertEqual(flattest(tree), least[tree])

    def test_what_lies_between_two_places_of_any_row(self):
        for row in plain.some_rows():
            if len(row) <= 40:
                tree = plain.tree(row)
                flat = flattest(tree)
                for b in range(len(row)):
                    for a in plain.over(tree, b):
                        self.assertGreaterEqual(row[b], row[a] + flat[b] - flat[a])

    def test_kin_rows_have_the_same_one(self):
        rows = list(plain.all_rows(4, 3))
        for one, other in itertools.product(rows, rows):
            same = flattest(tree_of(one)) == flattest(tree_of(other))
            self.assertEqual(same, plain.tree(one) == plain.tree(other))

    def test_no_tree(self):
        for told in plain.no_trees():
            self.refused(NoTree, flattest, told)

    def test_few_steps(self):
        for tree in plain.some_trees()[-40:]:
            self.few_steps(flattest, tree)


if __name__ == "__main__":
    unittest.main()
