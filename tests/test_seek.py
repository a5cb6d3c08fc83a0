"""6.1 to 6.3: starts in a text, the stretches that part, borders, steps, and the judge."""

import itertools
import unittest

from dipkin.errors import Empty
from dipkin.seek import borders_of, parted_starts, starts_of, steps_of
from dipkin.seekjudge import starts_right
from tests import plain


def starts_plain(row, text):
    size = len(row)
    tree = plain.tree(row)
    return [at for at in range(len(text) - size + 1) if plain.tree(text[at:at + size]) == tree]


def others_plain(row, text):
    told = []
    for at in range(len(text) - len(row) + 1):
        wrong = plain.partings(row, text[at:at + len(row)])
        if wrong:
            told.append((at,) + wrong[0])
    return told


def borders_plain(row):
    return [max([0] + [size for size in range(1, k) if plain.tree(row[:size]) == plain.tree(row[k - size:k])])
            for k in range(1, len(row) + 1)]


def steps_plain(row):
    return [s for s in range(1, len(row) + 1) if plain.tree(row[:len(row) - s]) == plain.tree(row[s:])]


def some_questions():
    """Pairs of a row and a text."""
    rows = [row for many in range(1, 5) for row in plain.all_rows(many, 2)] + [(plain.BIG, -plain.BIG), (2, 0, 1)]
    texts = [row for row in plain.some_rows() if len(row) < 9] + plain.some_rows()[14:40]
    pairs = list(itertools.product(rows, texts))
    longs = [row for row in plain.some_rows() if len(row) >= 12]
    for at, text in enumerate(longs):
        for start, size in ((0, 1), (0, 12), (3, 9), (1, len(text) - 1), (0, len(text)), (at % 12, 7)):
            pairs.append((text[start:start + size], text))
        pairs.append((longs[at - 1], text))
    return [(row, text) for row, text in pairs if row]


class Starts(plain.Case):
    def test_by_hand(self):
        self.assertEqual(starts_of((2, 1), (5, 4, 4, 9, 3, 2)), [0, 3, 4])
        self.assertEqual(parted_starts((2, 1), (5, 4, 4, 9, 3, 2)), [(1, 0, 1), (2, 0, 1)])
        self.assertEqual(starts_of((1, 1), (5, 4, 4, 9, 3, 2)), [1, 2])
        self.assertEqual(starts_of((1, 5, 0), (3, 9, 3, 9, 2)), [2])
        self.assertEqual(parted_starts((1, 5, 0), (3, 9, 3, 9, 2)), [(0, 0, 2), (1, 0, 1)])

    def test_as_the_words_say(self):
        for row, text in some_questions():
            self.assertEqual(starts_of(row, text), starts_plain(row, text), (row, text))
            self.assertEqual(parted_starts(row, text), others_plain(row, text), (row, text))

    def test_lists_and_tuples(self):
        for row, text in some_questions()[::7]:
            for one, other in ((list(row), text), (row, list(text)), (list(row), list(text))):
                self.assertEqual(starts_of(one, other), starts_plain(row, text))
                self.assertEqual(parted_starts(one, other), others_plain(row, text))
                self.assertEqual((tuple(one), tuple(other)), (row, text))

    def test_each_start_in_one_of_both(self):
        for row, text in some_questions():
            starts, others = starts_of(row, text), parted_starts(row, text)
            self.assertEqual(sorted(starts + [entry[0] for entry in others]), list(range(len(text) - len(row) + 1)))
            self.assertTrue(all(type(entry) is tuple and len(entry) == 3 for entry in others))

    def test_a_text_shorter_than_the_row(self):
        for row, text in (((1,), ()), ((1, 2), (1,)), ([1] * 40, (1,) * 39), ((1,) * 41, [1] * 40), ((5,), [])):
            self.assertEqual(starts_of(row, text), [])
            self.assertEqual(parted_starts(row, text), [])

    def test_one_number(self):
        self.assertEqual(starts_of((7,), (3, -plain.BIG, plain.BIG)), [0, 1, 2])
        self.assertEqual(parted_starts((7,), (3, -plain.BIG, plain.BIG)), [])
        self.assertEqual(starts_of([7], [plain.BIG]), [0])

    def test_beyond_forty(self):
        text = tuple(range(20)) * 3
        self.assertEqual(starts_of((0, 1, 0), text), starts_plain((0, 1, 0), text))
        self.assertEqual(parted_starts((0, 1, 0), text), others_plain((0, 1, 0), text))
        self.assertEqual(starts_of((4,) * 41, (4,) * 42), [0, 1])

    def test_empty(self):
        for none in ((), []):
            for text in ((), [], (1,), (1,) * 40, [2] * 41):
                self.refused(Empty, starts_of, none, text)
                self.refused(Empty, parted_starts, none, text)

    def test_new_each_time(self):
        for row, text in (((2, 1), (5, 4, 4, 9, 3, 2)), ((1,), ()), ((1,), (1,)), ([9, 8], [1, 2])):
            self.new_each_time(starts_of, row, text)
            self.new_each_time(parted_starts, row, text)

    def test_few_steps(self):
        for size in (1, 2, 13, 20, 27, 39, 40):
            for number in (0, 1, -1):
                text = tuple(number * place for place in range(40))
                self.few_steps(starts_of, text[:size], text)
                self.few_steps(parted_starts, text[:size], text)


class Borders(plain.Case):
    def test_by_hand(self):
        self.assertEqual(borders_of(()), [])
        self.assertEqual(borders_of([]), [])
        self.assertEqual(borders_of((5,)), [0])
        self.assertEqual(borders_of((5, 5)), [0, 1])
        self.assertEqual(borders_of((5, 4)), [0, 1])
        self.assertEqual(borders_of((1, 2, 1, 2, 1)), [0, 1, 1, 2, 3])
        self.assertEqual(steps_of((1, 2, 1, 2, 1)), [2, 4, 5])
        self.assertEqual(steps_of(()), [])
        self.assertEqual(steps_of([]), [])
        self.assertEqual(steps_of((5,)), [1])
        self.assertEqual(steps_of([3, 3, 3]), [1, 2, 3])

    def test_as_the_words_say(self):
        for row in plain.some_rows() + [row for many in range(7) for row in plain.all_rows(many, 3)]:
            borders, steps = borders_plain(row), steps_plain(row)
            self.assertEqual(borders_of(row), borders)
            self.assertEqual(borders_of(list(row)), borders)
            self.assertEqual(steps_of(row), steps)
            self.assertEqual(steps_of(list(row)), steps)
            if row:
                self.assertEqual(min(steps), len(row) - borders[-1])

    def test_nothing_is_changed(self):
        row = [1, 2, 1, 2, 1]
        borders_of(row)
        steps_of(row)
        self.assertEqual(row, [1, 2, 1, 2, 1])

    def test_new_each_time(self):
        for row in ((), (5,), (1, 2, 1, 2, 1)):
            self.new_each_time(borders_of, row)
            self.new_each_time(steps_of, row)

    def test_few_steps(self):
        for row in plain.edge_rows():
            self.few_steps(borders_of, row)
            self.few_steps(steps_of, row)


class Judge(plain.Case):
    def right(self, answer, row, text, starts, others):
        kept = list(row), list(text), list(starts), list(others)
        self.assertIs(starts_right(row, text, starts, others), answer, (row, text, starts, others))
        self.assertEqual((list(row), list(text), list(starts), list(others)), kept)

    def test_what_is_told_is_let_by(self):
        for row, text in some_questions():
            starts, others = starts_of(row, text), parted_starts(row, text)
            self.right(True, row, text, starts, others)
            self.right(True, list(row), list(text), tuple(starts), tuple(others))

    def test_just_the_stretches_that_part(self):
        for row, text in some_questions()[::5]:
            if len(row) > 9:
                continue
            starts, others = starts_plain(row, text), others_plain(row, text)
            for at, (start, _, _) in enumerate(others[:3]):
                good = plain.partings(row, text[start:start + len(row)])
                pairs = plain.stretches(len(row)) + plain.some_pairs(len(row))
                for a, b in pairs:
                    shown = others[:at] + [(start, a, b)] + others[at + 1:]
                    self.right((a, b) in good, row, text, starts, shown)

    def test_starts_otherwise(self):
        for row, text in some_questions()[::5]:
            starts, others = starts_plain(row, text), others_plain(row, text)
            for at, start in enumerate(starts):
                self.right(False, row, text, starts[:at] + starts[at + 1:], others)
                self.right(False, row, text, starts[:at] + [start, start] + starts[at + 1:], others)
                self.right(False, row, text, starts[:at] + [start - len(text)] + starts[at + 1:], others)
                self.right(False, row, text, starts[:at] + [start + 1] + starts[at + 1:], others)
            if len(starts) > 1:
                self.right(False, row, text, starts[::-1], others)
                self.right(False, row, text, starts[1:] + starts[:1], others)
            for far in (-1, len(text), len(text) - len(row) + 1) + plain.FAR:
                self.right(False, row, text, starts + [far], others)
                self.right(False, row, text, [far] + starts, others)
            for start, _, _ in others:
                self.right(False, row, text, sorted(starts + [start]), others)

    def test_others_otherwise(self):
        for row, text in some_questions()[::5]:
            starts, others = starts_plain(row, text), others_plain(row, text)
            for at, (start, a, b) in enumerate(others):
                self.right(False, row, text, starts, others[:at] + others[at + 1:])
                self.right(False, row, text, starts, others[:at] + [(start, a, b)] + others[at:])
                for other in (start + 1, start - 1, start - len(text), len(text)) + plain.FAR:
                    self.right(False, row, text, starts, others[:at] + [(other, a, b)] + others[at + 1:])
                moved = sorted(starts + [start])
                self.right(False, row, text, moved, others[:at] + others[at + 1:])
            if len(others) > 1:
                self.right(False, row, text, starts, others[::-1])
                self.right(False, row, text, starts, others[1:] + others[:1])
            for far in (-1, len(text), len(text) - len(row) + 1) + plain.FAR:
                self.right(False, row, text, starts, others + [(far, 0, 1)])
                self.right(False, row, text, starts, [(far, 0, 1)] + others)
            for start in starts:
                left = [one for one in starts if one != start]
                for a, b in ((0, len(row) - 1), (0, 0), (0, 1), (-1, 0)):
                    self.right(False, row, text, left, sorted(others + [(start, a, b)]))
                    self.right(False, row, text, starts, sorted(others + [(start, a, b)]))

    def test_a_stretch_of_another_start(self):
        row, text = (1, 3, 2), (1, 5, 0, 9, 8, 3)
        starts, others = starts_plain(row, text), others_plain(row, text)
        self.assertEqual((starts, others), ([2], [(0, 0, 2), (1, 0, 1), (3, 0, 1)]))
        self.right(False, row, text, starts, [(0, 0, 1), (1, 0, 1), (3, 0, 1)])
        self.right(False, row, text, starts, [(0, 0, 2), (1, 2, 3), (3, 0, 1)])
        self.right(False, row, text, starts, [(0, 0, 2), (1, 0, 1), (3, 3, 4)])

    def test_a_list_is_no_tuple(self):
        self.right(False, (2, 1), (5, 4, 4), [0], [[1, 0, 1]])

    def test_a_short_text(self):
        for row, text in (((1,), ()), ((1, 2), [1]), ([1] * 40, (1,) * 39)):
            self.right(True, row, text, [], [])
            self.right(True, row, text, (), ())
            for wrong in (0, -1, -2, 1) + plain.FAR:
                self.right(False, row, text, [wrong], [])
                self.right(False, row, text, [], [(wrong, 0, 0)])
                self.right(False, row, text, [], [(wrong, 0, 1)])

    def test_empty(self):
        for none in ((), []):
            for text in ((), (1,), [1] * 40):
                self.refused(Empty, starts_right, none, text, [], [])
                self.refused(Empty, starts_right, none, text, [0, 1], [(0, 0, 0)])

    def test_few_steps(self):
        for size in (1, 2, 13, 20, 27, 39, 40):
            for number in (0, 1, -1):
                text = tuple(number * place for place in range(40))
                row = tuple(range(size))
                self.few_steps(starts_right, row, text, starts_of(row, text), parted_starts(row, text))


if __name__ == "__main__":
    unittest.main()
