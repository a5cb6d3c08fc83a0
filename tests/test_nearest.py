"""9.2: the nearest row of a tree, how far it is, the pair that shows it, and the judge."""

import itertools
import unittest

from dipkin.errors import NoTree, Unlike
from dipkin.nearest import nearest, nearest_right
from tests import plain


def far_apart(one, other):
    return max([abs(x - y) for x, y in zip(one, other)], default=0)


def more_by(tree, row, a, b):
    """By how much a's number and what b's flat number is more than a's is more than b's number."""
    flat = plain.flat(tree)
    return row[a] + flat[b] - flat[a] - row[b]


def shows(tree, row, far, pair):
    """Whether a pair is as 9.2 tells, word by word."""
    if far == 0 or pair is None:
        return far == 0 and pair is None
    a, b = pair
    if not (0 <= a < len(tree) and 0 <= b < len(tree)) or a not in plain.over(tree, b):
        return False
    return more_by(tree, row, a, b) in (2 * far, 2 * far - 1)


def rows_by_tree(many, numbers):
    found = {}
    for row in itertools.product(numbers, repeat=many):
        found.setdefault(plain.tree(row), []).append(row)
    return found


class Nearest(plain.Case):
    def as_told(self, tree, row):
        far, made, pair = told = nearest(tree, row)
        self.assertIsInstance(told, tuple)
        self.assertEqual(nearest(tree, list(row)), told)
        self.assertIsInstance(made, tuple)
        self.assertEqual(plain.tree(made), tree)
        self.assertEqual(far_apart(made, row), far)
        self.assertTrue(shows(tree, row, far, pair))
        self.assertEqual(pair is None, far == 0)
        self.assertIsInstance(pair, (tuple, type(None)))
        self.assertIs(nearest_right(tree, row, far, made, pair), True)
        self.assertIs(nearest_right(tree, list(row), far, list(made), pair), True)
        return told

    def test_by_hand(self):
        self.assertEqual(nearest((), ()), (0, (), None))
        self.assertEqual(nearest((), []), (0, (), None))
        self.assertEqual(nearest((-1,), [-5]), (0, (-5,), None))
        self.assertEqual(nearest((1, -1), (4, 3)), (0, (4, 3), None))
        self.assertEqual(nearest((1, -1), (3, 3))[::2], (1, (1, 0)))
        self.assertEqual(nearest((1, -1), (3, 4)), (1, (4, 3), (1, 0)))
        self.assertEqual(nearest((-1, 0), (5, 1)), (2, (3, 3), (0, 1)))
        self.assertEqual(nearest((-1, 0), (5, 0))[::2], (3, (0, 1)))
        self.assertEqual(nearest((-1, 0), (plain.BIG, -plain.BIG)), (plain.BIG, (0, 0), (0, 1)))

    def test_all_rows_gone_through(self):
        for many in range(5):
            by_tree = rows_by_tree(many, range(-3, 6) if many == 4 else range(-4, 8))
            for tree in plain.all_trees(many):
                for row in plain.all_rows(many, 3 if many == 4 else 4):
                    told = self.as_told(tree, row)
                    self.assertEqual(told[0], min(far_apart(row, made) for made in by_tree[tree]))

    def test_up_to_forty(self):
        for tree, row in plain.trees_and_rows():
            far, made, pair = self.as_told(tree, row)
            most = max([more_by(tree, row, a, b) for b in range(0, len(tree), 3) for a in plain.over(tree, b)], default=0)
            self.assertGreaterEqual(2 * far, most)

    def test_rows_of_the_tree_are_0_far(self):
        for row in plain.some_rows():
            if len(row) <= 40:
                self.assertEqual(nearest(plain.tree(row), row), (0, row, None))

    def test_one_number_otherwise_is_near(self):
        for row in plain.some_rows():
            for place in range(0, min(len(row), 40), 9):
                if len(row) <= 40:
                    other = row[:place] + (row[place] - 2,) + row[place + 1:]
                    self.assertIn(self.as_told(plain.tree(row), other)[0], (0, 1))

    def test_nothing_is_changed(self):
        tree, row = (1, -1, 3, 1, 3), [0, 5, 2, 9, 1]
        told = nearest(tree, row)
        nearest_right(tree, row, *told)
        self.assertEqual(row, [0, 5, 2, 9, 1])
        row[0] = 99
        self.assertEqual(told, nearest(tree, (0, 5, 2, 9, 1)))

    def test_few_steps(self):
        for tree, row in plain.trees_and_rows()[::7]:
            self.few_steps(nearest, tree, row)
            self.few_steps(nearest_right, tree, row, *nearest(tree, row))


class Refused(plain.Case):
    def both_refused(self, error, tree, row):
        self.refused(error, nearest, tree, row)
        for far, made, pair in ((0, (), None), (0, row, None), (-1, (1,) * 50, (0, 1)), (1, [], (-1, plain.FAR[2]))):
            self.refused(error, nearest_right, tree, row, far, made, pair)

    def test_no_tree_ahead_of_unlike(self):
        for tree in plain.no_trees():
            for many in (0, len(tree), len(tree) + 1):
                self.both_refused(NoTree, tree, (0,) * many)

    def test_unlike(self):
        for tree in ((), (-1,), (1, -1), tuple(range(-1, 39))):
            for many in (0, 1, 2, 39, 40, 41, len(tree) + 1, max(len(tree) - 1, 0)):
                if many != len(tree):
                    self.both_refused(Unlike, tree, (0,) * many)
                    self.both_refused(Unlike, tree, [0] * many)


class Judge(plain.Case):
    def right(self, answer, tree, row, far, made, pair):
        self.assertIs(nearest_right(tree, row, far, made, pair), answer, (tree, row, far, made, pair))

    def test_all_small_papers(self):
        for many in range(3):
            by_tree = rows_by_tree(many, range(-4, 7))
            pairs = [None] + list(itertools.product(range(-many - 1, many + 2), repeat=2))
            for tree in plain.all_trees(many):
                for row in plain.all_rows(many, 4):
                    best = min(far_apart(row, made) for made in by_tree[tree])
                    for far, made in itertools.product(range(-2, 4), itertools.product(range(-1, 5), repeat=many)):
                        good = far == best and plain.tree(made) == tree and far_apart(made, row) <= far
                        for pair in pairs if good else pairs[::9]:
                            self.right(good and shows(tree, row, far, pair), tree, row, far, made, pair)

    def test_far_otherwise(self):
        for tree, row in plain.trees_and_rows()[::3]:
            far, made, pair = nearest(tree, row)
            for other in (far + 1, far - 1, -far, -1, 0, 2 * far, far + plain.BIG, 10 ** 5000, -10 ** 5000):
                self.right(other == far, tree, row, other, made, pair)

    def test_made_otherwise(self):
        for tree, row in plain.trees_and_rows()[::5]:
            far, made, pair = nearest(tree, row)
            wrong = [made + (0,), made[:-1], made[1:], made + made[-1:], made + (0,) * 41, made[::-1], row, ()]
            wrong += [tuple(number + more for number in made) for more in (1, -1, 2 * far + 1, -2 * far - 1, plain.BIG)]
            for place in range(0, len(made), 5):
                for more in (1, -1, 2 * far + 1, -2 * far - 1, 10 ** 5000, -10 ** 5000):
                    wrong.append(made[:place] + (made[place] + more,) + made[place + 1:])
            for other in wrong:
                good = len(other) == len(tree) and plain.tree(other) == tree and far_apart(other, row) <= far
                self.right(good, tree, row, far, other, pair)
                self.right(good, tree, row, far, list(other), pair)

    def test_pairs_otherwise(self):
        for tree, row in plain.trees_and_rows()[::5]:
            far, made, pair = nearest(tree, row)
            many = len(tree)
            places = [-1, -many, 0, 1, many // 2, many - 1, many, 10 ** 5000, -10 ** 5000]
            asked = [None] + list(itertools.product(places, places))
            if pair is not None:
                a, b = pair
                asked += [(b, a), (a - many, b), (a, b - many), (a, a), (b, b), (a + 1, b), (a, b + 1)]
                self.right(False, tree, row, far, made, [a, b])
            for other in asked:
                self.right(shows(tree, row, far, other), tree, row, far, made, other)

    def test_a_pair_where_far_is_0(self):
        self.right(True, (-1, 0), (1, 1), 0, (1, 1), None)
        self.right(False, (-1, 0), (1, 1), 0, (1, 1), (0, 1))
        self.right(False, (), (), 0, (), (0, 0))
        self.right(False, (), (), -1, (), None)
        self.right(False, (), (), 1, (), None)
        # A pair that is as far apart, but with far one more than must be: both rows are within it.
        self.right(False, (-1, 0), (1, 0), 2, (0, 0), (0, 1))
        self.right(False, (-1, 0), (2, 0), 2, (0, 0), (0, 1))
        self.right(True, (-1, 0), (2, 0), 1, (1, 1), (0, 1))

    def test_no_pair_of_places(self):
        for pair in ((), (0,), (0, 1, 1), (0, 1, 0)):
            self.right(False, (-1, 0), (2, 0), 1, (1, 1), pair)


if __name__ == "__main__":
    unittest.main()
