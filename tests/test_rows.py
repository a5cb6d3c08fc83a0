"""1.1, 1.4 and what 0.2 to 0.4 say of them: lows, kin rows, the stretch that parts two rows."""

import itertools
import unittest

from dipkin.errors import NoPlace, Unlike
from dipkin.rows import kin, low, parted
from tests import plain


def parted_plain(one, other):
    """By the words of 1.4: of all stretches whose lows are unlike the shortest, of these the first."""
    wrong = plain.partings(one, other)
    return wrong[0] if wrong else None


class Low(plain.Case):
    def test_by_hand(self):
        self.assertEqual(low((3, 1, 2, 1), 0, 3), 1)
        self.assertEqual(low((3, 1, 2, 1), 2, 3), 3)
        self.assertEqual(low([3, 1, 2, 1], 0, 0), 0)
        self.assertEqual(low((4, 4, 4), 1, 2), 1)
        self.assertEqual(low((plain.BIG, -plain.BIG, -plain.BIG), 0, 2), 1)

    def test_each_stretch_of_many_rows(self):
        for row in plain.some_rows():
            for (a, b), place in plain.lows(row).items():
                self.assertEqual(low(row, a, b), place)
                self.assertEqual(low(list(row), a, b), place)

    def test_no_place(self):
        for many in (0, 1, 2, 5, 40, 41):
            for a, b in plain.some_pairs(many):
                self.refused(NoPlace, low, (1,) * many, a, b)
                self.refused(NoPlace, low, [1] * many, a, b)


class Parted(plain.Case):
    def test_by_hand(self):
        self.assertIsNone(parted((), ()))
        self.assertIsNone(parted((1,), (9,)))
        self.assertIsNone(parted((3, 1, 2), [9, -4, 9]))
        self.assertEqual(parted((1, 1), (1, 0)), (0, 1))
        self.assertEqual(parted((0, 5, 1), (1, 5, 0)), (0, 2))
        self.assertEqual(parted([1, 2, 3, 2], (1, 2, 2, 1)), (1, 3))
        self.assertEqual(parted((1, 0, 1, 0), (0, 1, 0, 1)), (0, 1))

    def test_alike_numbers_part_apart(self):
        self.assertEqual(parted((1, 3, 1), (2, 3, 1)), (0, 2))
        self.assertIsNone(parted((1, 3, 1), (1, 3, 2)))

    def test_all_small_rows(self):
        for many in range(5):
            rows = list(plain.all_rows(many, 3))
            for one, other in itertools.product(rows, rows):
                self.assertEqual(parted(one, other), parted_plain(one, other), (one, other))

    def test_long_rows(self):
        rows = plain.some_rows()
        for one, other in itertools.product(rows[10:], rows[10:]):
            if len(one) == len(other):
                told = parted(one, list(other))
                self.assertEqual(told, parted_plain(one, other))
                self.assertIsInstance(told, tuple if told else type(None))

    def test_its_low_is_one_end_here_and_the_other_there(self):
        rows = plain.chance_rows(80, 12, 5)
        for one, other in itertools.product(rows, rows):
            if len(one) == len(other) and parted(one, other) is not None:
                a, b = parted(one, other)
                self.assertEqual({plain.low(one, a, b), plain.low(other, a, b)}, {a, b})

    def test_one_number_changed_in_forty(self):
        for place in range(40):
            one = tuple(range(40))
            other = tuple(-1 if at == place else at for at in range(40))
            self.assertEqual(parted(one, other), parted_plain(one, other))

    def test_unlike(self):
        for one, other in (((), (1,)), ((1,), ()), ((1, 2), (1,)), ([1] * 40, [1] * 41), ((1,) * 41, [1] * 40)):
            self.refused(Unlike, parted, one, other)

    def test_few_steps(self):
        for row in (tuple(range(40)), (0,) * 40, tuple(range(40, 0, -1))):
            self.few_steps(parted, row, row)


class Kin(plain.Case):
    def test_by_hand(self):
        self.assertIs(kin((), []), True)
        self.assertIs(kin((1,), (-plain.BIG,)), True)
        self.assertIs(kin((1, 1), (1, 2)), True)
        self.assertIs(kin((1, 1), (2, 1)), False)
        self.assertIs(kin((1, 2), (1, 2, 3)), False)
        self.assertIs(kin((), (1,)), False)
        self.assertIs(kin([4] * 40, list(range(40))), True)
        self.assertIs(kin([4] * 40, [4] * 41), False)

    def test_kin_is_the_same_tree_and_the_same_lows(self):
        rows = [row for many in range(5) for row in plain.all_rows(many, 3)]
        for one, other in itertools.product(rows, rows):
            told = kin(one, other)
            self.assertIs(told, len(one) == len(other) and plain.tree(one) == plain.tree(other))
            self.assertIs(told, plain.lows(one) == plain.lows(other))

    def test_long_rows(self):
        rows = plain.some_rows()
        for one, other in itertools.product(rows, rows):
            self.assertIs(kin(list(one), other), plain.tree(one) == plain.tree(other))


class HandedIn(plain.Case):
    def test_nothing_is_changed(self):
        for row in plain.some_rows():
            one, other = list(row), list(reversed(row))
            parted(one, other)
            kin(one, other)
            for a, b in plain.stretches(len(row))[:50]:
                low(one, a, b)
            self.assertEqual((one, other), (list(row), list(reversed(row))))


if __name__ == "__main__":
    unittest.main()
