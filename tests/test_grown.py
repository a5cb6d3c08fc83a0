"""11.1: a row that grows and shrinks at both ends, its marks, the changes, and deeds taken back."""

import random
import unittest

from dipkin.errors import Empty, NoPast, NoPlace, TooMany
from dipkin.grown import Grown
from tests import plain


class Plain:
    """The same by the words, slowly: numbers with their marks, and how all stood ahead of each deed."""

    def __init__(self, row):
        self.now = list(enumerate(row))
        self.past = []

    def elders(self):
        """The elder's mark of each mark."""
        tree = plain.tree([number for mark, number in self.now])
        return {mark: None if elder == -1 else self.now[elder][0] for (mark, number), elder in zip(self.now, tree)}

    def go_to(self, now):
        before = self.elders()
        self.now = now
        after = self.elders()
        return sorted((mark, before[mark], after[mark]) for mark in before
                      if mark in after and before[mark] != after[mark])

    def deed(self, name, number):
        now = list(self.now)
        if name == "put_ahead":
            now = [(now[0][0] - 1 if now else 0, number)] + now
        elif name == "put_behind":
            now = now + [(now[-1][0] + 1 if now else 0, number)]
        elif name == "take_ahead":
            now = now[1:]
        else:
            now = now[:-1]
        self.past.append(self.now)
        return self.go_to(now)

    def take_back(self):
        return self.go_to(self.past.pop())


DEEDS = ("put_ahead", "put_behind", "take_ahead", "take_behind")


class Growing(plain.Case):
    def stands_as(self, grown, model):
        """All that is told of the row now."""
        numbers = [number for mark, number in model.now]
        self.assertEqual(grown.row_now(), numbers)
        self.assertIsInstance(grown.row_now(), list)
        self.assertEqual(grown.first_mark(), model.now[0][0] if model.now else 0)
        self.assertEqual(grown.tree_now(), plain.tree(numbers))
        self.assertIsInstance(grown.tree_now(), tuple)
        elders = model.elders()
        self.assertEqual({mark: grown.elder_of(mark) for mark in elders}, elders)
        first, last = (model.now[0][0], model.now[-1][0]) if model.now else (1, 0)
        for mark in (first - 1, last + 1, first - 41, last + 41) + plain.FAR:
            self.refused(NoPlace, grown.elder_of, mark)

    def do(self, grown, model, name, number):
        """One deed, or its refusal, behind which all stands as it did."""
        deed = getattr(grown, name)
        args = (number,) if name.startswith("put") else ()
        if name.startswith("put") and len(model.now) >= 40:
            self.refused(TooMany, deed, *args)
        elif name.startswith("take") and not model.now:
            self.refused(Empty, deed)
        else:
            changes = deed(*args)
            self.assertEqual(changes, model.deed(name, number))
            self.changes_are_so(changes)

    def changes_are_so(self, changes):
        self.assertIsInstance(changes, list)
        self.assertLessEqual(len(changes), 1)
        self.assertTrue(all(type(change) is tuple for change in changes))

    def back(self, grown, model):
        if model.past:
            changes = grown.take_back()
            self.assertEqual(changes, model.take_back())
            self.changes_are_so(changes)
        else:
            self.refused(NoPast, grown.take_back)

    def test_by_hand(self):
        grown = Grown((5, 3))
        self.assertEqual((grown.row_now(), grown.first_mark(), grown.tree_now()), ([5, 3], 0, (1, -1)))
        self.assertEqual((grown.elder_of(0), grown.elder_of(1)), (1, None))
        self.assertEqual(grown.put_behind(3), [])
        self.assertEqual(grown.put_behind(1), [(1, None, 3)])
        self.assertEqual(grown.put_ahead(0), [(3, None, -1)])
        self.assertEqual((grown.row_now(), grown.first_mark()), ([0, 5, 3, 3, 1], -1))
        self.assertEqual((grown.tree_now(), grown.elder_of(-1), grown.elder_of(0)), ((-1, 2, 4, 2, 0), None, 1))
        self.assertEqual(grown.take_ahead(), [(3, -1, None)])
        self.assertEqual(grown.take_behind(), [(1, 3, None)])
        self.assertEqual(grown.take_back(), [(1, None, 3)])
        self.assertEqual(grown.take_back(), [(3, None, -1)])
        self.assertEqual(grown.row_now(), [0, 5, 3, 3, 1])
        self.assertEqual([grown.take_back() for _ in range(3)], [[(3, -1, None)], [(1, 3, None)], []])
        self.assertEqual((grown.row_now(), grown.first_mark()), ([5, 3], 0))
        self.refused(NoPast, grown.take_back)

    def test_grown_empty_and_anew(self):
        for name in ("put_ahead", "put_behind"):
            grown = Grown((7, 8))
            self.assertEqual(grown.take_ahead(), [(1, 0, None)])
            self.assertEqual(grown.first_mark(), 1)
            self.assertEqual(grown.take_ahead(), [])
            self.assertEqual((grown.first_mark(), grown.row_now(), grown.tree_now()), (0, [], ()))
            self.assertEqual(getattr(grown, name)(4), [])
            self.assertEqual((grown.first_mark(), grown.row_now(), grown.elder_of(0)), (0, [4], None))
            self.refused(NoPlace, grown.elder_of, 1)
            self.assertEqual(grown.take_back(), [])
            self.assertEqual(grown.first_mark(), 0)
            self.assertEqual(grown.take_back(), [])
            self.assertEqual((grown.first_mark(), grown.row_now()), (1, [8]))
            self.assertEqual(grown.put_ahead(9), [])
            self.assertEqual((grown.first_mark(), grown.elder_of(0)), (0, 1))

    def test_marks_of_an_emptied_row(self):
        grown = Grown(())
        for number in (1, 2, 3):
            grown.put_ahead(number)
        self.assertEqual(grown.first_mark(), -2)
        for _ in range(3):
            grown.take_behind()
        self.assertEqual(grown.first_mark(), 0)
        grown.put_ahead(5)
        self.assertEqual(grown.first_mark(), 0)
        grown.put_ahead(6)
        self.assertEqual(grown.first_mark(), -1)

    def test_sixty_deeds_and_all_taken_back(self):
        source = random.Random(13)
        for at, row in enumerate([row for row in plain.some_rows() if len(row) <= 40]):
            grown, model = Grown(row), Plain(row)
            numbers = (1, 3, 50, plain.BIG)[at % 4]
            weights = ((1, 1, 1, 1), (3, 3, 1, 1), (1, 1, 3, 3), (4, 1, 1, 4), (1, 0, 0, 0))[at % 5]
            while len(model.past) < 60:
                name = source.choices(DEEDS, weights)[0]
                past = len(model.past)
                self.do(grown, model, name, source.randint(-numbers, numbers))
                if len(model.past) == past:
                    self.stands_as(grown, model)
                    self.do(grown, model, "take_behind" if model.now else "put_behind", source.randint(0, 3))
                if len(model.past) % 9 == 0:
                    self.stands_as(grown, model)
            while model.past:
                self.back(grown, model)
                if len(model.past) % 9 == 0:
                    self.stands_as(grown, model)
            self.assertEqual(grown.row_now(), list(row))
            self.back(grown, model)
            self.stands_as(grown, model)

    def test_deeds_and_takings_back_mixed(self):
        source = random.Random(17)
        for start in ((), (5,), (2, 1), [3, 3, 3], tuple(range(38)), [9 - at % 4 for at in range(40)]):
            for _ in range(4):
                grown, model = Grown(start), Plain(start)
                for _ in range(90):
                    if source.random() < 0.35 or len(model.past) == 60:
                        self.back(grown, model)
                    else:
                        self.do(grown, model, source.choice(DEEDS), source.randint(0, 4))
                    self.stands_as(grown, model)

    def test_from_one_number_to_forty_and_back(self):
        for name, numbers in (("put_ahead", range(40)), ("put_behind", range(40)), ("put_ahead", range(40, 0, -1)),
                              ("put_behind", range(40, 0, -1)), ("put_behind", [7] * 40), ("put_ahead", [-7] * 40)):
            grown, model = Grown([]), Plain([])
            self.stands_as(grown, model)
            for number in numbers:
                self.do(grown, model, name, number)
            self.stands_as(grown, model)
            self.refused(TooMany, grown.put_ahead, 1)
            self.refused(TooMany, grown.put_behind, 1)
            self.stands_as(grown, model)
            while model.past:
                self.back(grown, model)
            self.stands_as(grown, model)

    def test_forty_and_forty_one_numbers(self):
        for many in (40, 41):
            grown = Grown((1,) * many)
            self.refused(TooMany, grown.put_ahead, 0)
            self.refused(TooMany, grown.put_behind, 0)
            self.refused(NoPast, grown.take_back)
            self.assertEqual((len(grown.row_now()), grown.first_mark()), (many, 0))
            grown.take_ahead()
            grown.take_behind()
            self.assertEqual(grown.put_ahead(0), [(1, None, 0)])
            self.assertEqual(grown.first_mark(), 0)

    def test_empty_changes_nothing(self):
        grown = Grown(())
        for _ in range(2):
            self.refused(Empty, grown.take_ahead)
            self.refused(Empty, grown.take_behind)
            self.refused(NoPast, grown.take_back)
        self.refused(NoPlace, grown.elder_of, 0)
        self.assertEqual((grown.row_now(), grown.first_mark(), grown.tree_now()), ([], 0, ()))
        grown.put_behind(1)
        grown.take_behind()
        self.refused(Empty, grown.take_behind)
        grown.take_back()
        self.assertEqual(grown.row_now(), [1])

    def test_numbers_of_sixty_figures(self):
        grown, model = Grown([plain.BIG, -plain.BIG]), Plain([plain.BIG, -plain.BIG])
        for name, number in (("put_ahead", -plain.BIG), ("put_behind", plain.BIG), ("put_behind", -plain.BIG),
                             ("take_ahead", 0), ("put_ahead", plain.BIG - 1), ("take_behind", 0)):
            self.do(grown, model, name, number)
            self.stands_as(grown, model)

    def test_rows_are_kept_and_told_as_copies(self):
        row = [3, 1, 2]
        grown = Grown(row)
        row.append(9)
        row[0] = 0
        self.assertEqual((grown.row_now(), grown.tree_now()), ([3, 1, 2], (1, -1, 1)))
        told = grown.row_now()
        told.clear()
        self.assertEqual(grown.row_now(), [3, 1, 2])
        changes = grown.put_behind(0)
        changes.append("mark")
        self.assertEqual(grown.take_back(), [(1, 3, None)])
        self.assertEqual(grown.put_behind(0), [(1, None, 3)])
        self.assertEqual(row, [0, 1, 2, 9])

    def test_two_rows_are_apart(self):
        one, other = Grown([1]), Grown([1])
        one.put_ahead(2)
        self.assertEqual((one.row_now(), other.row_now()), ([2, 1], [1]))
        self.refused(NoPast, other.take_back)

    def test_few_steps(self):
        for row in (tuple(range(39)), tuple(range(39, 0, -1)), (5,) * 39):
            self.few_steps(Grown, row)
            grown = Grown(row)
            for name, args in (("put_ahead", (7,)), ("take_behind", ()), ("put_behind", (-1,)), ("take_back", ()),
                               ("row_now", ()), ("first_mark", ()), ("elder_of", (5,)), ("tree_now", ())):
                self.few_steps(getattr(grown, name), *args)


if __name__ == "__main__":
    unittest.main()
