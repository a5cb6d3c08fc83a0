"""9.1: the least row of a tree within bounds, or two places that clash, and the judge."""

import itertools
import unittest

from dipkin.bounds import fitted, fitted_right
from dipkin.errors import NoTree, Unlike
from tests import plain


def rows_within(tree, least, greatest):
    """All rows of the tree within the bounds, gone through."""
    ranges = [range(low, high + 1) for low, high in zip(least, greatest)]
    return [row for row in itertools.product(*ranges) if plain.tree(row) == tree]


def clashes(tree, least, greatest):
    """All pairs (a, b) that clash by the words of 9.1."""
    flat = plain.flat(tree)
    return [(a, b) for b in range(len(tree)) for a in sorted({b} | plain.over(tree, b))
            if least[a] + flat[b] - flat[a] > greatest[b]]


def small_questions():
    """All trees of up to three places with all bounds from 0 to 2, some of four and five."""
    for many in range(4):
        for tree in plain.all_trees(many):
            for least in plain.all_rows(many, 3):
                for greatest in plain.all_rows(many, 3):
                    yield tree, least, greatest
    for many in (4, 5):
        bounds = list(plain.all_rows(many, 3))
        for at, tree in enumerate(plain.all_trees(many)):
            for k in range(0, len(bounds), 5):
                yield tree, bounds[k], tuple(number + 2 for number in bounds[(7 * k + at) % len(bounds)])


def great_questions():
    """Trees of up to forty places within bounds of some kinds."""
    for tree, row in plain.trees_and_rows():
        for wide in (0, 1, 5, 39, 2 * plain.BIG):
            yield tree, row, tuple(number + wide for number in row)
        yield tree, row, tuple(plain.flat(tree))
        yield tree, tuple(plain.flat(tree)), row
        yield tree, row, row[::-1]


class Fitted(plain.Case):
    def as_told(self, tree, least, greatest):
        """What is told is of just one form, and so; it is told alike of lists."""
        told = fitted(tree, least, greatest)
        self.assertIsInstance(told, tuple)
        self.assertEqual(fitted(tree, list(least), list(greatest)), told)
        found = clashes(tree, least, greatest)
        if found:
            self.assertEqual((told[0], len(told)), ("clash", 3))
            self.assertIn(told[1:], found)
        else:
            self.assertEqual((told[0], len(told)), ("row", 2))
            self.assertIsInstance(told[1], tuple)
            self.assertEqual(plain.tree(told[1]), tree)
            self.assertTrue(all(low <= number <= high for low, number, high in zip(least, told[1], greatest)))
        self.assertIs(fitted_right(tree, least, greatest, told), True)
        self.assertIs(fitted_right(tree, list(least), list(greatest), told), True)
        return told

    def test_by_hand(self):
        self.assertEqual(fitted((), (), ()), ("row", ()))
        self.assertEqual(fitted((), [], []), ("row", ()))
        self.assertEqual(fitted((-1,), (3,), (5,)), ("row", (3,)))
        self.assertEqual(fitted((-1,), (3,), (3,)), ("row", (3,)))
        self.assertEqual(fitted((-1,), (3,), (2,)), ("clash", 0, 0))
        self.assertEqual(fitted((1, -1), (0, 4), (5, 5)), ("row", (5, 4)))
        self.assertEqual(fitted((1, -1), (0, 4), (4, 5)), ("clash", 1, 0))
        self.assertEqual(fitted((-1, 0), (4, 0), (5, 4)), ("row", (4, 4)))
        self.assertEqual(fitted((-1, 0), (4, 0), (5, 3)), ("clash", 0, 1))
        self.assertEqual(fitted((-1, 0), (4, 6), (5, 5)), ("clash", 1, 1))
        self.assertEqual(fitted((1, -1, 3, 1, 3), (0, -9, 0, 2, 0), (9,) * 5), ("row", (0, -9, 3, 2, 2)))

    def test_all_rows_gone_through(self):
        for tree, least, greatest in small_questions():
            told = self.as_told(tree, least, greatest)
            found = rows_within(tree, least, greatest)
            self.assertEqual(told[0] == "row", bool(found))
            if found:
                self.assertIn(told[1], found)
                self.assertEqual(list(told[1]), [min(numbers) for numbers in zip(*found)])

    def test_up_to_forty(self):
        for tree, least, greatest in great_questions():
            told = self.as_told(tree, least, greatest)
            if told[0] == "row":
                flat = plain.flat(tree)
                for b, number in enumerate(told[1]):
                    reasons = [least[a] + flat[b] - flat[a] for a in sorted({b} | plain.over(tree, b))]
                    self.assertEqual(number, max(reasons))

    def test_bounds_that_leave_one_row(self):
        for row in plain.some_rows():
            if len(row) <= 40:
                self.assertEqual(fitted(plain.tree(row), row, row), ("row", row))

    def test_one_place_alone_leaves_none(self):
        for row in plain.some_rows():
            for place in range(0, min(len(row), 40), 7):
                if len(row) <= 40:
                    greatest = list(row)
                    greatest[place] -= 1
                    told = self.as_told(plain.tree(row), row, tuple(greatest))
                    self.assertEqual((told[0], told[2]), ("clash", place))

    def test_all_bounds_alike(self):
        for tree in plain.some_trees():
            for number in (0, 7, plain.BIG, -plain.BIG):
                told = self.as_told(tree, (number,) * len(tree), (number,) * len(tree))
                self.assertEqual(told[0] == "row", max(plain.flat(tree), default=0) == 0)
                wide = self.as_told(tree, (number,) * len(tree), (number + 39,) * len(tree))
                self.assertEqual(wide, ("row", tuple(number + more for more in plain.flat(tree))))

    def test_nothing_is_changed(self):
        tree, least, greatest = (1, -1, 3, 1, 3), [0, -9, 0, 2, 0], [9, 9, 9, 9, 9]
        told = fitted(tree, least, greatest)
        fitted_right(tree, least, greatest, told)
        self.assertEqual((least, greatest), ([0, -9, 0, 2, 0], [9, 9, 9, 9, 9]))
        least[0] = 7
        self.assertEqual(told, ("row", (0, -9, 3, 2, 2)))

    def test_few_steps(self):
        for tree, least, greatest in list(great_questions())[::17]:
            self.few_steps(fitted, tree, least, greatest)
            self.few_steps(fitted_right, tree, least, greatest, fitted(tree, least, greatest))


class Refused(plain.Case):
    def both_refused(self, error, tree, least, greatest):
        self.refused(error, fitted, tree, least, greatest)
        for told in (("row", ()), ("row", (1, 2)), ("clash", 0, 0), ("clash", -1, plain.FAR[2]), ("row", (0,) * 50)):
            self.refused(error, fitted_right, tree, least, greatest, told)

    def test_no_tree_ahead_of_unlike(self):
        for tree in plain.no_trees():
            for many in (0, len(tree), len(tree) + 1):
                self.both_refused(NoTree, tree, (0,) * many, [0] * len(tree))

    def test_unlike(self):
        for tree in ((), (-1,), (1, -1), tuple(range(-1, 39))):
            good = (0,) * len(tree)
            counts = [0, 1, 2, 39, 40, 41, len(tree) + 1, max(len(tree) - 1, 0)]
            for bad in [(0,) * many for many in counts if many != len(tree)]:
                self.both_refused(Unlike, tree, bad, good)
                self.both_refused(Unlike, tree, good, bad)
                self.both_refused(Unlike, tree, list(bad), bad)


class Judge(plain.Case):
    def right(self, answer, tree, least, greatest, told):
        self.assertIs(fitted_right(tree, least, greatest, told), answer, (tree, least, greatest, told))

    def test_all_small_papers(self):
        for at, (tree, least, greatest) in enumerate(small_questions()):
            if at % 11 == 0:
                many = len(tree)
                found = rows_within(tree, least, greatest)
                wanted = tuple(min(numbers) for numbers in zip(*found)) if many else ()
                for row in plain.all_rows(many, 4 if many < 4 else 2):
                    self.right(bool(found) and row == wanted, tree, least, greatest, ("row", row))
                pairs = clashes(tree, least, greatest)
                for a, b in itertools.product(range(-many - 1, many + 2), repeat=2):
                    self.right((a, b) in pairs, tree, least, greatest, ("clash", a, b))

    def test_rows_otherwise(self):
        for tree, least, greatest in list(great_questions())[::7]:
            told = fitted(tree, least, greatest)
            if told[0] == "row":
                row = told[1]
                wrong = [row + (0,), row[:-1], row[1:], (row[:1] or (0,)) + row, row + row[-1:], row + (0,) * 41]
                wrong += [tuple(number + more for number in row) for more in (1, -1, plain.BIG, 10 ** 5000)]
                for place in range(0, len(row), 5):
                    for more in (1, -1, plain.BIG, -10 ** 5000):
                        wrong.append(row[:place] + (row[place] + more,) + row[place + 1:])
                for other in wrong:
                    self.right(other == row, tree, least, greatest, ("row", other))
                    self.right(other == row, tree, least, greatest, ("row", list(other)))
            else:
                self.right(False, tree, least, greatest, ("row", least))
                self.right(False, tree, least, greatest, ("row", tuple(plain.flat(tree))))

    def test_another_row_of_the_tree_within_the_bounds(self):
        self.right(True, (1, -1), (0, 0), (9, 9), ("row", (1, 0)))
        for row in ((2, 0), (2, 1), (9, 8), (1, -1), (0, 0), (10, 0)):
            self.right(False, (1, -1), (0, 0), (9, 9), ("row", row))

    def test_clashes_otherwise(self):
        for tree, least, greatest in list(great_questions())[::13]:
            many = len(tree)
            pairs = clashes(tree, least, greatest)
            places = [-1, -many, 0, 1, many // 2, many - 1, many, 10 ** 5000, -10 ** 5000]
            asked = list(itertools.product(places, places)) + pairs[:20] + [(b, a) for a, b in pairs[:20]]
            asked += [(a - many, b) for a, b in pairs[:9]] + [(a, b - many) for a, b in pairs[:9]]
            for a, b in asked:
                self.right((a, b) in pairs, tree, least, greatest, ("clash", a, b))

    def test_rows_may_be_lists_but_what_is_told_is_a_tuple(self):
        self.right(True, (1, -1), [0, 0], [9, 9], ("row", [1, 0]))
        self.right(False, (1, -1), [0, 0], [9, 9], ["row", (1, 0)])
        self.right(False, (-1,), [3], [2], ["clash", 0, 0])

    def test_of_neither_form(self):
        for told in ((), ("row",), ("clash",), ("row", (1, 0), 0), ("row", 0, 1), ("clash", 1), ("clash", (1, 0)),
                     ("rows", (1, 0)), ("clash", 1, 0, 0), ((1, 0),)):
            self.right(False, (1, -1), (0, 0), (9, 9), told)
        for told in (("row", 0, 0), ("clash", 0), ("clash", 0, 0, 0), ("crash", 0, 0), (0, 0), ("clash", (0,))):
            self.right(False, (-1,), (3,), (2,), told)


if __name__ == "__main__":
    unittest.main()
