"""7.1: a watch of rows over numbers as they come and are taken back."""

import random
import unittest

from dipkin.errors import Empty, NoPast, TooMany
from dipkin.watch import Watch
from tests import plain


def kin_rows(rows, given):
    """The numbers of the rows that are kin to the last so many of what is given."""
    return [at for at, row in enumerate(rows)
            if len(row) <= len(given) and plain.tree(row) == plain.tree(given[len(given) - len(row):])]


def reach(rows, given):
    """The greatest k such that the last k given are kin to the first k of some row."""
    return max([0] + [k for row in rows for k in range(1, min(len(row), len(given)) + 1)
                      if plain.tree(row[:k]) == plain.tree(given[len(given) - k:])])


def some_watched():
    """Lists of rows that a watch is made of."""
    source = random.Random(7)
    watched = [
        [(5,)], [[5]], [(1, 2)], [(2, 1)], [(1, 2), (2, 1)], [(1, 2), (3, 4), (1, 2), [1, 1]], [(0,) * 12],
        [tuple(range(12)), tuple(range(12, 0, -1))], [(1, 2, 1, 2, 1), (1, 2, 1), (2, 1, 2)], [(0,) * 12] * 12,
        [(plain.BIG, -plain.BIG), (-plain.BIG, -plain.BIG, plain.BIG)], [tuple(range(k)) for k in range(1, 13)],
        [tuple(range(k, 0, -1)) for k in range(12, 0, -1)], ((3, 1, 2), [9, 4]),
    ]
    for count in range(1, 13):
        longest = (3, 5, 12)[count % 3]
        watched.append([tuple(source.randint(0, 2) for _ in range(source.randint(1, longest))) for _ in range(count)])
    return watched


def some_numbers():
    """Sixty numbers to be given, of some kinds."""
    source = random.Random(9)
    return [
        [0] * 60, list(range(60)), list(range(60, 0, -1)), [at % 2 for at in range(60)],
        [source.randint(0, 2) for _ in range(60)], [source.randint(-9, 9) for _ in range(60)],
        [source.randint(-plain.BIG, plain.BIG) for _ in range(60)], [min(at % 12, 12 - at % 12) for at in range(60)],
        [(-1) ** at * plain.BIG for at in range(60)],
    ]


class Watching(plain.Case):
    def asked(self, watch, rows, given):
        self.assertEqual(watch.reach_now(), reach(rows, given), (rows, given))
        self.assertEqual(watch.how_many(), len(given))

    def test_by_hand(self):
        watch = Watch([(1, 2), (2, 1), (7,), (1, 2, 1)])
        self.assertEqual((watch.reach_now(), watch.how_many()), (0, 0))
        self.assertEqual(watch.give(5), [2])
        self.assertEqual((watch.reach_now(), watch.how_many()), (1, 1))
        self.assertEqual(watch.give(5), [0, 2])
        self.assertEqual(watch.reach_now(), 2)
        self.assertEqual(watch.give(4), [1, 2])
        self.assertEqual(watch.reach_now(), 2)
        self.assertEqual(watch.take_back(), 4)
        self.assertEqual(watch.reach_now(), 2)
        self.assertEqual(watch.give(9), [0, 2])
        self.assertEqual(watch.give(5), [1, 2, 3])
        self.assertEqual((watch.reach_now(), watch.how_many()), (3, 4))

    def test_sixty_given_and_all_taken_back(self):
        for rows in some_watched():
            for numbers in some_numbers():
                watch = Watch(rows)
                self.asked(watch, rows, [])
                for at, number in enumerate(numbers):
                    self.assertEqual(watch.give(number), kin_rows(rows, numbers[:at + 1]))
                    if at % 7 == 0 or at > 55:
                        self.asked(watch, rows, numbers[:at + 1])
                for at in reversed(range(60)):
                    self.assertEqual(watch.take_back(), numbers[at])
                    if at % 7 == 0 or at > 55:
                        self.asked(watch, rows, numbers[:at])
                self.refused(NoPast, watch.take_back)

    def test_taken_back_is_as_not_given(self):
        source = random.Random(3)
        for rows in some_watched():
            watch = Watch(rows)
            given = []
            for _ in range(120):
                if given and source.random() < 0.4:
                    self.assertEqual(watch.take_back(), given.pop())
                else:
                    given.append(source.randint(0, 3))
                    self.assertEqual(watch.give(given[-1]), kin_rows(rows, given))
                self.asked(watch, rows, given)
                if not given:
                    self.refused(NoPast, watch.take_back)

    def test_no_past_changes_nothing(self):
        watch = Watch([(1, 2)])
        self.refused(NoPast, watch.take_back)
        self.refused(NoPast, watch.take_back)
        self.assertEqual((watch.how_many(), watch.reach_now()), (0, 0))
        watch.give(1)
        watch.take_back()
        self.refused(NoPast, watch.take_back)
        self.assertEqual((watch.give(1), watch.give(2)), ([], [0]))

    def test_two_watches_are_apart(self):
        one, other = Watch([(1, 2)]), Watch([(1, 2)])
        one.give(1)
        self.assertEqual((one.how_many(), other.how_many()), (1, 0))
        self.assertEqual((one.give(2), other.give(2)), ([0], []))

    def test_rows_are_kept_as_copies(self):
        rows = [[1, 2], [2, 1, 2]]
        watch = Watch(rows)
        rows[0].append(0)
        rows[1].clear()
        rows.append([1])
        self.assertEqual([watch.give(number) for number in (5, 4, 9)], [[], [], [0, 1]])
        self.assertEqual(rows, [[1, 2, 0], [], [1]])

    def test_rows_are_not_changed_and_lists_are_new(self):
        rows = [[1, 2], (2, 1), [7]]
        watch = Watch(rows)
        told = watch.give(5)
        told.append(9)
        self.assertEqual(watch.give(6), [0, 2])
        watch.take_back()
        watch.take_back()
        self.assertEqual(watch.give(5), [2])
        self.assertEqual(rows, [[1, 2], (2, 1), [7]])

    def test_empty_ahead_of_too_many(self):
        for rows in ([], (), [()], [[]], [(1,), ()], [(), (1,)], [(1,)] * 12 + [()], [()] * 13, [(0,) * 13, ()],
                     [(), (0,) * 13], [(1,)] * 11 + [[]], [(0,) * 40] * 20 + [()]):
            self.refused(Empty, Watch, rows)

    def test_too_many(self):
        for rows in ([(1,)] * 13, [(0,) * 13], [(1,), (0,) * 13], [[0] * 13, [1]], [(1,)] * 40, [(0,) * 41],
                     [(0,) * 12] * 13, [(0,) * 12] * 11 + [[0] * 13]):
            self.refused(TooMany, Watch, rows)

    def test_twelve_are_not_too_many(self):
        watch = Watch([[at] * 12 for at in range(12)])
        for _ in range(11):
            self.assertEqual(watch.give(0), [])
        self.assertEqual(watch.give(0), list(range(12)))
        self.assertEqual(watch.reach_now(), 12)

    def test_few_steps(self):
        for row in (tuple(range(12)), (0, 1) * 6, tuple(range(12, 0, -1))):
            watch = Watch([row] * 12)
            for number in row * 4 + (row[0] - 1,):
                self.few_steps(watch.give, number)
                self.few_steps(watch.reach_now)


if __name__ == "__main__":
    unittest.main()
