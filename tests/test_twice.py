"""7.2 and 7.3: groups of kin stretches, the longest twice and both, and that none is longer."""

import itertools
import unittest

from dipkin.errors import Empty
from dipkin.twice import groups_of, longest_both, longest_twice, none_longer, none_right
from tests import plain


def groups_plain(row, size):
    groups = {}
    for at in range(len(row) - size + 1):
        groups.setdefault(plain.tree(row[at:at + size]), []).append(at)
    return sorted(groups.values())


def twice_plain(row):
    found = []
    for size in range(1, len(row)):
        for group in groups_plain(row, size):
            if len(group) > 1:
                found.append((-size, group[0], group[1]))
    size, one, other = min(found)
    return (-size, one, other)


def both_plain(one, other):
    found = []
    for size in range(1, min(len(one), len(other)) + 1):
        here = {plain.tree(one[a:a + size]): a for a in reversed(range(len(one) - size + 1))}
        there = {plain.tree(other[b:b + size]): b for b in reversed(range(len(other) - size + 1))}
        found += [(-size, a, there[tree]) for tree, a in here.items() if tree in there]
    size, a, b = min(found)
    return (-size, a, b)


def shown_plain(row, size):
    """For each two beginnings of stretches of this size all stretches that part them."""
    many = len(row) - size + 1
    return [(one, other, plain.partings(row[one:one + size], row[other:other + size]))
            for one in range(many) for other in range(one + 1, many)]


def some_of_two():
    small = [row for many in range(2, 6) for row in plain.all_rows(many, 3)]
    return small + [row for row in plain.some_rows() if len(row) >= 2]


class Groups(plain.Case):
    def test_by_hand(self):
        self.assertEqual(groups_of((1, 2, 1, 2, 0), 2), [[0, 2], [1, 3]])
        self.assertEqual(groups_of([1, 2, 1, 2, 0], 3), [[0], [1], [2]])
        self.assertEqual(groups_of((4, 4, 4), 1), [[0, 1, 2]])

    def test_as_the_words_say(self):
        for row in plain.some_rows() + some_of_two()[::3]:
            for size in {1, 2, 3, 5, 12, len(row) - 1, len(row), 39, 40, 41} - {0, -1}:
                self.assertEqual(groups_of(row, size), groups_plain(row, size), (row, size))
                self.assertEqual(groups_of(list(row), size), groups_plain(row, size))

    def test_size_1_40_41_and_above_the_length(self):
        for row in ((), (5,), (5, 4), (0,) * 39):
            self.assertEqual(groups_of(row, 1), [list(range(len(row)))] if row else [])
            for size in range(len(row) + 1, 42):
                self.assertEqual(groups_of(row, size), [])
        self.assertEqual(groups_of(tuple(range(40)), 40), [[0]])
        self.assertEqual(groups_of(tuple(range(40)), 41), [])
        self.assertEqual(groups_of([7] * 41, 41), [[0]])
        self.assertEqual(groups_of([7] * 41, 40), [[0, 1]])

    def test_new_each_time(self):
        for row in ((), (5,), [1, 2, 1, 2, 0]):
            for size in (1, 2, 41):
                self.new_each_time(groups_of, row, size)

    def test_few_steps(self):
        for row in plain.edge_rows():
            for size in (1, 13, 20, 27, 40, 41):
                self.few_steps(groups_of, row, size)


class Longest(plain.Case):
    def test_by_hand(self):
        self.assertEqual(longest_twice((5, 4)), (1, 0, 1))
        self.assertEqual(longest_twice([4, 4]), (1, 0, 1))
        self.assertEqual(longest_twice((1, 2, 1, 2, 0)), (2, 0, 2))
        self.assertEqual(longest_twice((4, 4, 4)), (2, 0, 1))
        self.assertEqual(longest_both((9,), [plain.BIG]), (1, 0, 0))
        self.assertEqual(longest_both((3, 1, 2), (1, 2, 3, 1, 2)), (3, 0, 2))
        self.assertEqual(longest_both((1, 2), (2, 1)), (1, 0, 0))
        self.assertEqual(longest_both((1, 2, 1), [9, 8]), (2, 1, 0))

    def test_twice_as_the_words_say(self):
        for row in some_of_two():
            told = longest_twice(row)
            self.assertIsInstance(told, tuple)
            self.assertEqual(told, twice_plain(row), row)
            self.assertEqual(longest_twice(list(row)), told)

    def test_both_as_the_words_say(self):
        small = [row for many in range(1, 4) for row in plain.all_rows(many, 3)]
        longs = [row for row in plain.some_rows() if row]
        for one, other in list(itertools.product(small, small)) + list(itertools.product(longs[::3], longs[1::4])):
            told = longest_both(one, other)
            self.assertIsInstance(told, tuple)
            self.assertEqual(told, both_plain(one, other), (one, other))
            self.assertEqual(longest_both(list(one), list(other)), told)

    def test_of_forty(self):
        self.assertEqual(longest_twice(tuple(range(40))), (39, 0, 1))
        self.assertEqual(longest_twice([0] * 41), (40, 0, 1))
        self.assertEqual(longest_both((0,) * 40, tuple(range(40))), (40, 0, 0))
        self.assertEqual(longest_both((0,) * 40, tuple(range(40, 0, -1))), (1, 0, 0))

    def test_empty(self):
        for row in ((), [], (5,), [plain.BIG]):
            self.refused(Empty, longest_twice, row)
            self.refused(Empty, none_longer, row)
        for one, other in (((), ()), ((), (1,)), ((1,), ()), ([], [1] * 40), ([1] * 40, [])):
            self.refused(Empty, longest_both, one, other)

    def test_nothing_is_changed(self):
        for row in plain.some_rows():
            if len(row) >= 2:
                one, other = list(row), list(reversed(row))
                groups_of(one, 2)
                longest_twice(one)
                longest_both(one, other)
                none_longer(one)
                self.assertEqual((one, other), (list(row), list(reversed(row))))

    def test_few_steps(self):
        for row in plain.edge_rows():
            if len(row) >= 2:
                self.few_steps(longest_twice, row)
                self.few_steps(longest_both, row, row)
                self.few_steps(none_longer, row)


class NoneLonger(plain.Case):
    def test_by_hand(self):
        self.assertEqual(none_longer((5, 4)), [])
        self.assertEqual(none_longer((1, 2, 1, 2, 0)), [(0, 1, 0, 1), (0, 2, 0, 2), (1, 2, 0, 1)])

    def test_as_the_words_say(self):
        for row in some_of_two():
            size = longest_twice(row)[0] + 1
            told = none_longer(row)
            self.assertEqual(told, [(one, other) + wrong[0] for one, other, wrong in shown_plain(row, size)], row)
            self.assertTrue(all(type(entry) is tuple for entry in told))
            self.assertEqual(none_longer(list(row)), told)

    def test_new_each_time(self):
        for row in ((5, 4), (1, 2, 1, 2, 0), [0] * 40):
            self.new_each_time(none_longer, row)


class NoneRight(plain.Case):
    def right(self, answer, row, size, shown):
        kept = list(row), list(shown)
        self.assertIs(none_right(row, size, shown), answer, (row, size, shown))
        self.assertEqual((list(row), list(shown)), kept)

    def test_what_is_told_is_let_by(self):
        for row in some_of_two():
            size = longest_twice(row)[0] + 1
            self.right(True, row, size, none_longer(row))
            self.right(True, list(row), size, tuple(none_longer(row)))

    def test_it_is_right_of_greater_sizes(self):
        for row in ((1, 2, 1, 2, 0), (3, 1, 2, 1, 5, 0, 0), (plain.BIG, -plain.BIG, 0, -plain.BIG, 5)):
            for size in range(longest_twice(row)[0] + 1, 41):
                shown = [(one, other) + wrong[-1] for one, other, wrong in shown_plain(row, size)]
                self.right(True, row, size, shown)
                self.right(False, row, size, shown + [(0, 1, 0, 1)])

    def test_of_kin_stretches_nothing_shows_it(self):
        for row in ((4, 4), (1, 2, 1, 2, 0), (4, 4, 4)):
            for size in range(1, longest_twice(row)[0] + 1):
                pairs = [(one, other) for one, other, _ in shown_plain(row, size)]
                for a, b in ((0, 0), (0, size - 1), (0, size), (0, 1), (-1, 0)):
                    self.right(False, row, size, [(one, other, a, b) for one, other in pairs])
                self.right(False, row, size, [(one, other) + wrong[0] for one, other, wrong in shown_plain(row, size)
                                              if wrong])
                self.right(False, row, size, [])

    def test_just_the_stretches_that_part(self):
        for row in [row for row in plain.chance_rows(40, 9, 6) if len(row) >= 3]:
            size = longest_twice(row)[0] + 1
            shown = shown_plain(row, size)
            first = [(one, other) + wrong[0] for one, other, wrong in shown]
            for at, (one, other, good) in enumerate(shown[:6]):
                for a, b in plain.stretches(size) + plain.some_pairs(size):
                    entries = first[:at] + [(one, other, a, b)] + first[at + 1:]
                    self.right((a, b) in good, row, size, entries)

    def test_entries_otherwise(self):
        for row in [(1, 2, 1, 2, 0), (3, 1, 2, 1, 5, 0, 0)] + [row for row in plain.some_rows() if len(row) > 10][::9]:
            size = longest_twice(row)[0] + 1
            shown = none_longer(row)
            for at in list(range(len(shown)))[:9]:
                one, other, a, b = shown[at]
                self.right(False, row, size, shown[:at] + shown[at + 1:])
                self.right(False, row, size, shown[:at] + [shown[at]] + shown[at:])
                self.right(False, row, size, shown[:at] + [(other, one, a, b)] + shown[at + 1:])
                for far in (-1, -len(row), len(row)) + plain.FAR:
                    self.right(False, row, size, shown[:at] + [(far, other, a, b)] + shown[at + 1:])
                    self.right(False, row, size, shown[:at] + [(one, far, a, b)] + shown[at + 1:])
                self.right(False, row, size, shown[:at] + [(one + 1, other, a, b)] + shown[at + 1:])
                self.right(False, row, size, shown[:at] + [(one, other + 1, a, b)] + shown[at + 1:])
                for far in (-1, -size, size) + plain.FAR:
                    self.right(False, row, size, shown[:at] + [(one, other, far, b)] + shown[at + 1:])
                    self.right(False, row, size, shown[:at] + [(one, other, a, far)] + shown[at + 1:])
            if len(shown) > 1:
                self.right(False, row, size, shown[::-1])
                self.right(False, row, size, shown[1:] + shown[:1])
            self.right(False, row, size, shown + [(0, 0, 0, 1)])
            self.right(False, row, size, [(0, 0, 0, 1)] + shown)

    def test_less_than_two_beginnings(self):
        for row in ((), [], (5,), (5, 4), (0,) * 39, (0,) * 40):
            for size in {max(1, len(row)), min(40, len(row) + 1), 40}:
                self.right(True, row, size, [])
                self.right(True, row, size, ())
                for entry in ((0, 0, 0, 0), (0, 1, 0, 1), (-1, 0, 0, 1), plain.FAR):
                    self.right(False, row, size, [entry])
        self.right(False, (0,) * 41, 40, [])

    def test_a_list_is_no_tuple(self):
        self.right(False, (1, 2, 1, 2, 0), 3, [[0, 1, 0, 1], (0, 2, 0, 2), (1, 2, 0, 1)])

    def test_few_steps(self):
        for row in plain.some_rows():
            for size in (1, 2, 6, 13, 20, 27, 40):
                many = len(row) - size + 1
                shown = [(one, other, 0, size - 1) for one in range(many) for other in range(one + 1, many)]
                self.few_steps(none_right, row, size, shown)


if __name__ == "__main__":
    unittest.main()
