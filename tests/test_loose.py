"""8.1 and 8.2: a row in a text with gaps, its table and the judge."""

import itertools
import random
import unittest

from dipkin.errors import Empty, NoPlace, TooMany
from dipkin.loose import least_stretches, many_loose, places_in
from dipkin.loosejudge import table_of, table_right
from tests import plain


def held(row, text):
    """All tuples of rising places at which the text holds the row."""
    tree = plain.tree(row)
    return [places for places in itertools.combinations(range(len(text)), len(row))
            if plain.tree([text[place] for place in places]) == tree]


def least_plain(row, text):
    spread = {(places[0], places[-1]) for places in held(row, text)}
    return sorted((a, b) for a, b in spread
                  if not any((c, d) != (a, b) and a <= c and d <= b for c, d in spread))


def table_plain(row, text):
    """By the words: of all places that the span of v can have, v's at i, the greatest first and the least last."""
    tree = plain.tree(row)
    table = []
    for v in range(len(row)):
        span = [place for place in range(len(row)) if place == v or v in plain.over(tree, place)]
        pairs = [None] * len(text)
        for places in held(row[span[0]:span[-1] + 1], text):
            i = places[v - span[0]]
            first, last = pairs[i] or (-1, len(text))
            pairs[i] = (max(first, places[0]), min(last, places[-1]))
        table.append(pairs)
    return table


def chance_texts(count, most, seed):
    source = random.Random(seed)
    numbers = (1, 2, 5, plain.BIG)
    return [tuple(source.randint(-numbers[at % 4], numbers[at % 4]) for _ in range(source.randint(0, most)))
            for at in range(count)]


def some_questions():
    """Pairs of a row and a text."""
    rows = [row for many in range(1, 5) for row in plain.all_rows(many, 2)]
    rows += [(2, 0, 1), [3, 1, 2, 0, 4], (0,) * 6, (5, 4, 3, 2, 1, 0), (0, 1, 2, 3, 4, 5), (plain.BIG, -plain.BIG)]
    rows += [(1, 2, 0, 2, 1, 3), (2, 4, 3, 5, 1, 1)]
    texts = [(), (5,), [4, 4], (2, 1), (0,) * 7, tuple(range(7)), tuple(range(7, 0, -1)), (1, 9, 3, 0, 4, 4, 2, 8)]
    pairs = list(itertools.product(rows, texts + chance_texts(12, 9, 5)))
    sixteen = [(0,) * 16, tuple(range(16)), tuple(range(16, 0, -1)), [at % 3 for at in range(16)]]
    sixteen += [tuple(text) for text in chance_texts(9, 16, 6) if len(text) > 12]
    for at, text in enumerate(sixteen):
        pairs += [(row, text) for row in rows[at::7]]
    return pairs


QUESTIONS = [(row, text, held(row, text)) for row, text in some_questions()]


class Table(plain.Case):
    def test_by_hand(self):
        self.assertEqual(table_of((5,), (7, 8)), [[(0, 0), (1, 1)]])
        self.assertEqual(table_of((1, 2), (7, 8, 6)), [[(0, 1), None, None], [(0, 0), (1, 1), (2, 2)]])
        self.assertEqual(table_of([2, 1], [7, 8, 7]), [[(0, 0), (1, 1), (2, 2)], [None, None, (1, 2)]])
        self.assertEqual(table_of((1, 1, 1), ()), [[], [], []])

    def test_as_the_words_say(self):
        for row, text, _ in QUESTIONS:
            self.assertEqual(table_of(row, text), table_plain(row, text), (row, text))
            self.assertEqual(table_of(list(row), list(text)), table_plain(row, text))

    def test_both_at_once_can_be_had(self):
        for row, text, found in QUESTIONS:
            top = plain.low(row, 0, len(row) - 1)
            for i, pair in enumerate(table_of(row, text)[top]):
                if pair is not None:
                    self.assertIsInstance(pair, tuple)
                    self.assertIn((pair, i), [((places[0], places[-1]), places[top]) for places in found])

    def test_new_each_time(self):
        for row, text in (((5,), (7, 8)), ((1, 2), (7, 8, 6)), ((1, 1, 1), ())):
            self.new_each_time(table_of, row, text)

    def test_few_steps(self):
        for row, text, _ in QUESTIONS:
            if len(text) == 16:
                self.few_steps(table_of, row, text)


class Loose(plain.Case):
    def test_by_hand(self):
        self.assertEqual(least_stretches((1, 2), (7, 8, 6, 9)), [(0, 1), (2, 3)])
        self.assertEqual(many_loose((1, 2), (7, 8, 6, 9)), 4)
        self.assertEqual(places_in((1, 2), (7, 8, 6, 9), 1, 3) in ((1, 3), (2, 3)), True)
        self.assertIsNone(places_in((1, 2), (7, 8, 6, 9), 1, 2))
        self.assertEqual(least_stretches((2, 1), (1, 1, 1)), [])
        self.assertEqual(many_loose((2, 1), (1, 1, 1)), 0)
        self.assertEqual(many_loose((0,) * 6, (0,) * 16), 8008)
        self.assertEqual(least_stretches([7], (5, 5)), [(0, 0), (1, 1)])

    def test_least_stretches_and_counts(self):
        for row, text, found in QUESTIONS:
            self.assertEqual(least_stretches(row, text), least_plain(row, text), (row, text))
            self.assertEqual(least_stretches(list(row), list(text)), least_plain(row, text))
            self.assertTrue(all(type(pair) is tuple for pair in least_stretches(row, text)))
            self.assertEqual(many_loose(row, text), len(found), (row, text))
            self.assertEqual(many_loose(list(row), list(text)), len(found))
            self.assertEqual(least_stretches(row, text) == [], not found)

    def test_all_trees_of_six(self):
        for at, tree in enumerate(plain.all_trees(6)):
            row = [len(plain.over(tree, place)) for place in range(6)]
            text = chance_texts(40, 12, 20 + at)[at % 40]
            found = held(row, text)
            self.assertEqual(many_loose(row, text), len(found))
            self.assertEqual(least_stretches(row, text), least_plain(row, text))
            if text:
                self.assertEqual(places_in(row, text, 0, len(text) - 1) is None, not found)

    def test_places_in(self):
        for row, text, found in QUESTIONS[::3]:
            known = set(found)
            for a, b in plain.stretches(len(text)):
                told = places_in(row, text, a, b)
                if told is None:
                    self.assertFalse([places for places in found if a <= places[0] and places[-1] <= b])
                else:
                    self.assertIsInstance(told, tuple)
                    self.assertIn(told, known)
                    self.assertTrue(a <= told[0] and told[-1] <= b)
                if b % 3 == 0:
                    self.assertEqual(places_in(list(row), list(text), a, b), told)

    def test_nothing_is_changed(self):
        row, text = [3, 1, 2], [5, 9, 1, 4, 0, 0, 3]
        for call in (least_stretches, many_loose, table_of):
            call(row, text)
        places_in(row, text, 1, 5)
        table_right(row, text, table_of(row, text))
        self.assertEqual((row, text), ([3, 1, 2], [5, 9, 1, 4, 0, 0, 3]))

    def test_new_each_time(self):
        for row, text in (((1, 2), (7, 8, 6, 9)), ((2, 1), (1, 1, 1)), ((1,), ())):
            self.new_each_time(least_stretches, row, text)

    def test_few_steps(self):
        for tree in plain.all_trees(6):
            row = [len(plain.over(tree, place)) for place in range(6)]
            for text in ((0,) * 16, tuple(range(16)), tuple(min(at, 16 - at) for at in range(16))):
                self.few_steps(many_loose, row, text)
                self.few_steps(least_stretches, row, text)
                self.few_steps(places_in, row, text, 0, 15)


class Refused(plain.Case):
    def all_refused(self, error, row, text):
        for call in (least_stretches, many_loose, table_of):
            self.refused(error, call, row, text)
        for table in ([], [[]], [[None] * 17] * 7):
            self.refused(error, table_right, row, text, table)
        for a, b in ((0, 0), (0, 1), (-1, 0), (5, 1)) + (plain.FAR[:2], plain.FAR[2:]):
            self.refused(error, places_in, row, text, a, b)

    def test_empty_ahead_of_too_many(self):
        for none in ((), []):
            for text in ((), (1,), (1,) * 16, (1,) * 17, [1] * 40):
                self.all_refused(Empty, none, text)

    def test_too_many(self):
        for row in ((1,) * 7, [1] * 8, tuple(range(40)), (1,) * 41):
            for text in ((), (1,), (1,) * 16, (1,) * 17, [1] * 41):
                self.all_refused(TooMany, row, text)
        for row in ((1,), [1] * 6):
            for text in ((1,) * 17, [1] * 18, (1,) * 40, [1] * 41):
                self.all_refused(TooMany, row, text)

    def test_no_place(self):
        for row in ((1,), (1, 2), [1] * 6):
            for many in (0, 1, 2, 5, 15, 16):
                for a, b in plain.some_pairs(many):
                    self.refused(NoPlace, places_in, row, (1,) * many, a, b)
                    self.refused(NoPlace, places_in, row, [1] * many, a, b)

    def test_at_the_bounds_nothing_is_refused(self):
        for row in ((1,), (1,) * 6):
            for text in ((1,) * 16, (1,), ()):
                self.assertIsInstance(least_stretches(row, text), list)
                self.assertIsInstance(many_loose(row, text), int)
                self.assertIs(table_right(row, text, table_of(row, text)), True)


class Judge(plain.Case):
    def right(self, answer, row, text, table):
        kept = [list(pairs) for pairs in table]
        self.assertIs(table_right(row, text, table), answer, (row, text, table))
        self.assertEqual([list(pairs) for pairs in table], kept)

    def test_the_table_in_lists_and_tuples(self):
        for row, text, _ in QUESTIONS:
            table = table_plain(row, text)
            self.right(True, row, text, table)
            self.right(True, list(row), list(text), tuple(tuple(pairs) for pairs in table))

    def test_each_pair_otherwise(self):
        for row, text, _ in QUESTIONS[::9]:
            table = table_plain(row, text)
            for v, i in itertools.product(range(len(row)), range(len(text))):
                good = table[v][i]
                first, last = good or (i, i)
                others = [None, (i, i), (first - 1, last), (first + 1, last), (first, last + 1), (first, last - 1)]
                others += [(last, first), (-1, -1), (0, len(text)), (first - len(text), last)]
                others += [(far, last) for far in plain.FAR] + [(first, far) for far in plain.FAR]
                for other in others:
                    changed = [list(pairs) for pairs in table]
                    changed[v][i] = other
                    self.right(other == good, row, text, changed)

    def test_a_list_more_or_less_or_longer(self):
        for row, text, _ in QUESTIONS[::9]:
            table = table_plain(row, text)
            wrong = [table + [[]], table + table[-1:], table[:-1], table[1:], [], [[]] + table]
            wrong.append(table + [[None] * len(text)])
            for v, pairs in enumerate(table):
                for other in (pairs + [None], pairs + [(0, 0)], pairs[:-1], pairs[1:], [], [None] + pairs):
                    wrong.append(table[:v] + [other] + table[v + 1:])
            for other in wrong:
                if other != table:
                    self.right(False, row, text, other)

    def test_a_list_is_no_pair(self):
        self.right(False, (5,), (7, 8), [[(0, 0), [1, 1]]])

    def test_few_steps(self):
        row, text = (1, 2, 0, 2, 1, 3), tuple(min(at, 16 - at) for at in range(16))
        self.few_steps(table_right, row, text, table_of(row, text))


if __name__ == "__main__":
    unittest.main()
