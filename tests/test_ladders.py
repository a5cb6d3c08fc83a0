"""3.3: ladders."""

import unittest

from dipkin.errors import NoPlace
from dipkin.ladders import ladder_low, ladder_of, ladder_right
from tests import plain


def ladder_plain(row):
    rungs = []
    while 2 ** len(rungs) <= len(row):
        size = 2 ** len(rungs)
        rungs.append([plain.low(row, a, a + size - 1) for a in range(len(row) - size + 1)])
    return rungs


class LadderOf(plain.Case):
    def test_by_hand(self):
        self.assertEqual(ladder_of(()), [])
        self.assertEqual(ladder_of([9]), [[0]])
        self.assertEqual(ladder_of((4, 4)), [[0, 1], [0]])
        self.assertEqual(ladder_of((3, 1, 2, 1, 5)), [[0, 1, 2, 3, 4], [1, 1, 3, 3], [1, 1]])

    def test_how_many_rungs(self):
        for many, rungs in ((0, 0), (1, 1), (2, 2), (3, 2), (4, 3), (31, 5), (32, 6), (33, 6), (40, 6), (41, 6)):
            self.assertEqual(len(ladder_of((0,) * many)), rungs)

    def test_each_low(self):
        for row in plain.some_rows():
            self.assertEqual(ladder_of(row), ladder_plain(row))
            self.assertEqual(ladder_of(list(row)), ladder_plain(row))

    def test_new_each_time(self):
        for row in ((), (9,), (3, 1, 2, 1, 5), [3, 1, 2, 1, 5]):
            self.new_each_time(ladder_of, row)

    def test_few_steps(self):
        for row in plain.edge_rows():
            self.few_steps(ladder_of, row)


class LadderLow(plain.Case):
    def test_each_stretch(self):
        for row in plain.some_rows() + [row for many in range(6) for row in plain.all_rows(many, 3)]:
            ladder = ladder_plain(row)
            tuples = tuple(tuple(rung) for rung in ladder)
            for (a, b), place in plain.lows(row).items():
                self.assertEqual(ladder_low(row, ladder, a, b), place)
                self.assertEqual(ladder_low(list(row), tuples, a, b), place)
            self.assertEqual(ladder, ladder_plain(row))

    def test_it_goes_by_two_lows_of_one_rung(self):
        row = tuple(range(40))
        ladder = ladder_plain(row)
        for a, b in plain.stretches(40):
            self.assertLess(plain.steps_of(ladder_low, row, ladder, a, b), 20)

    def test_no_place(self):
        for many in (0, 1, 2, 5, 40, 41):
            row = (1,) * many
            for a, b in plain.some_pairs(many):
                self.refused(NoPlace, ladder_low, row, ladder_plain(row), a, b)


class LadderRight(plain.Case):
    def test_the_rows_ladder_in_lists_and_tuples(self):
        for row in plain.some_rows():
            ladder = ladder_plain(row)
            self.assertIs(ladder_right(row, ladder), True)
            self.assertIs(ladder_right(list(row), tuple(tuple(rung) for rung in ladder)), True)
            self.assertIs(ladder_right(row, [tuple(rung) for rung in ladder]), True)
            self.assertEqual(ladder, ladder_plain(row))

    def test_each_place_otherwise(self):
        for row in ((9,), (4, 4), (3, 1, 2, 1, 5), (plain.BIG, -plain.BIG, plain.BIG), (7,) * 40):
            for k, rung in enumerate(ladder_plain(row)):
                for a in range(len(rung)):
                    for wrong in (-1, rung[a] + 1, rung[a] - 1, rung[a] - len(row), len(row)) + plain.FAR:
                        ladder = ladder_plain(row)
                        ladder[k][a] = wrong
                        self.assertIs(ladder_right(row, ladder), False)

    def test_a_rung_or_a_length_otherwise(self):
        for row in ((9,), (4, 4), (3, 1, 2, 1, 5), (7,) * 40):
            ladder = ladder_plain(row)
            others = [ladder + [[]], ladder + [[0]], [[]] + ladder, ladder[:-1], ladder[1:], [], ladder + ladder[-1:]]
            for k, rung in enumerate(ladder):
                for other in (rung[:-1], rung + [0], rung + rung[-1:], [0] + rung, []):
                    others.append(ladder[:k] + [other] + ladder[k + 1:])
            for other in others:
                self.assertIs(ladder_right(row, other), False, other)

    def test_of_no_number(self):
        self.assertIs(ladder_right((), []), True)
        self.assertIs(ladder_right([], ()), True)
        self.assertIs(ladder_right((), [[]]), False)
        self.assertIs(ladder_right((), [[0]]), False)

    def test_the_last_of_two_alike(self):
        self.assertIs(ladder_right((4, 4), [[0, 1], [1]]), False)


if __name__ == "__main__":
    unittest.main()
