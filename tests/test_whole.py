"""0.1 to 0.4 and the interface: what is promised over the whole program."""

import copy
import importlib
import inspect
import itertools
import math
import unittest

from dipkin import errors
from dipkin.bounds import fitted
from dipkin.desk import Desk
from dipkin.fills import number_of_row, row_at
from dipkin.flattest import flattest
from dipkin.grown import Grown
from dipkin.joined import joined_trees, seam, tree_within
from dipkin.ladders import ladder_low, ladder_of
from dipkin.lows import low_by
from dipkin.nearest import nearest
from dipkin.numbers import number_of, tree_at
from dipkin.rows import kin, low, parted
from dipkin.seek import starts_of
from dipkin.stay import clashing, most_stay
from dipkin.tellings import brackets_of, by_brackets, by_distances, by_drops, distances_of, drops_of
from dipkin.texts import read_row, read_tree, row_text, tree_text
from dipkin.trees import tree_of
from tests import plain

TREE = (1, -1, 3, 1, 3)
ROW = [3, 1, 2, 1, 5]
TEXT = [4, 2, 3, 2, 2, 9, 0, 1]
LADDER = [[0, 1, 2, 3, 4], [1, 1, 3, 3], [1, 1]]
NONE_LONGER = [(0, 1, 0, 1)]
TABLE = [[(0, 1), None, None], [(0, 0), (1, 1), (2, 2)]]
CHAINS = [(1, 2), (0,)]

# For each function of the interface its arguments, and one question whose rows are lists.
FUNCTIONS = {
    "rows.low": ("row a b", (ROW, 0, 4)),
    "rows.parted": ("one other", (ROW, [1, 1, 2, 1, 5])),
    "rows.kin": ("one other", (ROW, [9, 0, 1, 0, 0])),
    "trees.tree_of": ("row", (ROW,)),
    "trees.is_tree": ("tree", (TREE,)),
    "trees.elders_of": ("tree place", (TREE, 4)),
    "tellings.distances_of": ("tree", (TREE,)),
    "tellings.drops_of": ("tree", (TREE,)),
    "tellings.brackets_of": ("tree", (TREE,)),
    "tellings.by_distances": ("told", ((0, 0, 1, 2, 1),)),
    "tellings.by_drops": ("told", ((0, 1, 0, 1, 0),)),
    "tellings.by_brackets": ("text", ("()(()(()))",)),
    "flattest.flattest": ("tree", (TREE,)),
    "lows.low_by": ("tree a b", (TREE, 2, 4)),
    "lows.spans_of": ("tree", (TREE,)),
    "lows.shares_of": ("tree", (TREE,)),
    "lows.leasts_sum": ("row", (ROW,)),
    "ladders.ladder_of": ("row", (ROW,)),
    "ladders.ladder_low": ("row ladder a b", (ROW, LADDER, 0, 3)),
    "ladders.ladder_right": ("row ladder", (ROW, LADDER)),
    "counts.many_trees": ("n", (5,)),
    "counts.many_open": ("n k", (5, 2)),
    "counts.many_falls": ("n k", (5, 2)),
    "counts.many_flat": ("n most", (5, 2)),
    "numbers.tree_at": ("n number", (5, 17)),
    "numbers.number_of": ("tree", (TREE,)),
    "fills.many_rows": ("tree m", (TREE, 4)),
    "fills.row_at": ("tree m number", (TREE, 4, 3)),
    "fills.number_of_row": ("row m", (ROW, 7)),
    "fills.many_orders": ("tree", (TREE,)),
    "seek.borders_of": ("row", (ROW,)),
    "seek.starts_of": ("row text", ([2, 1], TEXT)),
    "seek.parted_starts": ("row text", ([2, 1, 1], TEXT)),
    "seek.steps_of": ("row", (ROW,)),
    "seekjudge.starts_right": ("row text starts others", ([2, 1], [5, 4, 4], [0], [(1, 0, 1)])),
    "twice.groups_of": ("row size", (TEXT, 2)),
    "twice.longest_twice": ("row", (TEXT,)),
    "twice.longest_both": ("one other", (ROW, TEXT)),
    "twice.none_longer": ("row", (TEXT,)),
    "twice.none_right": ("row size shown", (ROW, 4, NONE_LONGER)),
    "loose.least_stretches": ("row text", ([2, 1, 1], TEXT)),
    "loose.places_in": ("row text a b", ([2, 1], TEXT, 1, 6)),
    "loose.many_loose": ("row text", ([2, 1, 1], TEXT)),
    "loosejudge.table_of": ("row text", ([2, 1, 1], TEXT)),
    "loosejudge.table_right": ("row text table", ([1, 2], [7, 8, 6], TABLE)),
    "bounds.fitted": ("tree least greatest", (TREE, ROW, [9] * 5)),
    "bounds.fitted_right": ("tree least greatest told", (TREE, ROW, [9] * 5, ("row", [3, 1, 2, 1, 5]))),
    "nearest.nearest": ("tree row", (TREE, [5, 4, 3, 2, 1])),
    "nearest.nearest_right": ("tree row far made pair", (TREE, ROW, 0, list(ROW), None)),
    "stay.most_stay": ("tree row", (TREE, [5, 4, 3, 2, 1])),
    "stay.clashing": ("tree row", (TREE, [5, 4, 3, 2, 1])),
    "stayjudge.stay_right": ("tree row kept made chains", ((-1, 0, 1), [4, 9, 5], (0, 2), [4, 4, 5], CHAINS)),
    "joined.tree_within": ("tree a b", (TREE, 1, 3)),
    "joined.seam": ("one other", (ROW, TEXT)),
    "joined.joined_trees": ("one other", (TREE, TREE)),
    "texts.row_text": ("row", (ROW,)),
    "texts.tree_text": ("tree", (TREE,)),
    "texts.read_row": ("text", ("3 1 2",)),
    "texts.read_tree": ("text", ("(())",)),
}
CLASSES = {
    "watch.Watch": {"__init__": "rows", "give": "number", "reach_now": "", "how_many": "", "take_back": ""},
    "grown.Grown": {"__init__": "row", "put_ahead": "number", "put_behind": "number", "take_ahead": "", "take_behind": "",
                    "take_back": "", "row_now": "", "first_mark": "", "elder_of": "mark", "tree_now": ""},
    "desk.Desk": {"__init__": "", "say": "line"},
}
# What a list in place of these would not be: where a tuple is told, a list is none.
LISTS = {"row", "one", "other", "text", "ladder", "starts", "others", "shown", "table", "least", "greatest", "made", "chains"}


def found(name):
    module, thing = name.split(".")
    return getattr(importlib.import_module(f"dipkin.{module}"), thing)


def as_tuples(thing):
    return tuple(as_tuples(part) for part in thing) if isinstance(thing, (list, tuple)) else thing


def spoil(thing):
    """Change each list in an answer."""
    if isinstance(thing, (list, tuple)):
        for part in thing:
            spoil(part)
    if isinstance(thing, list):
        thing.append("mark")
        thing.reverse()


class Interface(plain.Case):
    def test_functions_and_their_arguments(self):
        for name, (args, question) in FUNCTIONS.items():
            parameters = list(inspect.signature(found(name)).parameters.values())
            self.assertEqual(len(parameters), len(args.split()), name)
            self.assertEqual([one.name for one in parameters], args.split(), name)
            self.assertTrue(all(one.default is one.empty for one in parameters), name)

    def test_classes_and_their_methods(self):
        for name, methods in CLASSES.items():
            for method, args in methods.items():
                self.assertEqual(list(inspect.signature(getattr(found(name), method)).parameters), ["self"] + args.split())

    def test_refusals(self):
        names = "Unlike Empty TooMany NoTree NoTelling NoPlace NoNumber NoPast NoText NoLine".split()
        self.assertEqual(errors.DipError.__bases__, (ValueError,))
        self.assertEqual({one.__name__ for one in errors.DipError.__subclasses__()}, set(names))
        for name in names:
            error = getattr(errors, name)
            self.assertEqual((error.__bases__, error.__subclasses__()), ((errors.DipError,), []))
            self.assertEqual(str(error("a text")), "a text")


class EachFunction(plain.Case):
    def test_nothing_handed_in_is_changed(self):
        for name, (args, question) in FUNCTIONS.items():
            handed = copy.deepcopy(question)
            found(name)(*handed)
            self.assertEqual(handed, question, name)

    def test_the_same_question_has_the_same_answer(self):
        for name, (args, question) in FUNCTIONS.items():
            once = found(name)(*copy.deepcopy(question))
            self.assertEqual(found(name)(*copy.deepcopy(question)), once, name)
            self.assertNotIn(once, (None, False), name)

    def test_lists_told_are_the_askers_own(self):
        for name, (args, question) in FUNCTIONS.items():
            told = found(name)(*question)
            wanted = copy.deepcopy(told)
            spoil(told)
            self.assertEqual(found(name)(*question), wanted, name)

    def test_tuples_may_be_handed_in_for_lists(self):
        for name, (args, question) in FUNCTIONS.items():
            tuples = [as_tuples(one) if arg in LISTS else one for arg, one in zip(args.split(), question)]
            self.assertEqual(found(name)(*tuples), found(name)(*question), name)

    def test_what_is_handed_in_is_not_kept(self):
        for name, (args, question) in FUNCTIONS.items():
            handed = copy.deepcopy(question)
            told = found(name)(*handed)
            wanted = copy.deepcopy(told)
            for part in handed:
                if isinstance(part, list):
                    spoil(part)
            self.assertEqual(told, wanted, name)

    def test_few_steps(self):
        for name, (args, question) in FUNCTIONS.items():
            self.few_steps(found(name), *question)


class ThePromise(plain.Case):
    """0.4: what the modules tell of one row, or of two, is of one mind."""

    def rows(self):
        return [row for row in plain.some_rows() if len(row) <= 40]

    def test_kin_just_where_no_stretch_parts(self):
        rows = [row for many in range(5) for row in plain.all_rows(many, 3)]
        told = {row: tree_of(row) for row in rows}
        for one, other in itertools.product(rows[::2], rows):
            if len(one) == len(other):
                alike = not plain.partings(one, other)
                self.assertEqual(kin(one, other), alike)
                self.assertEqual(parted(one, other) is None, alike)
                self.assertEqual(told[one] == told[other], alike)
                if one:
                    self.assertEqual(starts_of(one, other), [0] if alike else [])

    def test_in_short_and_back(self):
        for row in self.rows():
            tree = tree_of(row)
            self.assertEqual(tree, plain.tree(row))
            self.assertEqual(by_distances(distances_of(tree)), tree)
            self.assertEqual(by_drops(drops_of(tree)), tree)
            self.assertEqual(by_brackets(brackets_of(tree)), tree)
            self.assertEqual(tree_at(len(tree), number_of(tree)), tree)
            self.assertEqual(read_tree(tree_text(tree)), tree)
            self.assertEqual(read_row(row_text(row)), row)
            self.assertEqual(tree_of(flattest(tree)), tree)

    def test_the_least_of_each_stretch(self):
        for row in self.rows()[::3]:
            tree, ladder = tree_of(row), ladder_of(row)
            for a, b in plain.stretches(len(row))[::5]:
                place = plain.low(row, a, b)
                self.assertEqual((low(row, a, b), low_by(tree, a, b), ladder_low(row, ladder, a, b)), (place,) * 3)
                self.assertEqual(tree_within(tree, a, b).index(-1) + a, place)

    def test_rows_of_the_tree_are_left_as_they_are(self):
        for row in self.rows():
            for tree in (tree_of(row), plain.tree(row[::-1])):
                whole = tree == tree_of(row)
                self.assertEqual(clashing(tree, row) == [], whole)
                self.assertEqual(nearest(tree, row)[0] == 0, whole)
                self.assertEqual(len(most_stay(tree, row)[0]) == len(row), whole)
                self.assertEqual(fitted(tree, row, row)[0] == "row", whole)

    def test_nearest_by_bounds(self):
        for tree, row in plain.trees_and_rows()[::3]:
            far = nearest(tree, row)[0]
            for less in (0, 1):
                least = [number - far + less for number in row]
                greatest = [number + far - less for number in row]
                self.assertEqual(fitted(tree, least, greatest)[0], "clash" if less and row else "row")

    def test_grown_number_by_number(self):
        for row in self.rows():
            behind, ahead = Grown(()), Grown([])
            for at in range(len(row)):
                behind.put_behind(row[at])
                ahead.put_ahead(row[-1 - at])
            for grown in (behind, ahead):
                self.assertEqual((grown.row_now(), grown.tree_now()), (list(row), tree_of(row)))

    def test_put_together(self):
        for row in self.rows():
            for cut in (1, len(row) // 2, len(row) - 2):
                one, other = tree_of(row[:cut]), tree_of(row[cut:])
                whole = list(one) + [elder if elder == -1 else elder + len(one) for elder in other]
                for place, own, now in seam(row[:cut], row[cut:]):
                    whole[place] = now
                self.assertEqual(tuple(whole), tree_of(row))
                try:
                    self.assertIn(tree_of(row), joined_trees(one, other))
                except errors.TooMany:
                    self.assertGreater(len(plain.over(one, len(one) - 1)) + len(plain.over(other, 0)), 7)

    def test_each_tree_and_each_row_comes_once(self):
        for many in range(6):
            trees = [tree_at(many, number) for number in range(math.comb(2 * many, many) // (many + 1))]
            self.assertEqual(sorted(trees), plain.all_trees(many))
            for tree in trees[::5]:
                rows = [row for row in plain.all_rows(many, 4) if plain.tree(row) == tree]
                self.assertEqual([row_at(tree, 4, number) for number in range(len(rows))], rows)
                self.assertEqual([number_of_row(row, 4) for row in rows], list(range(len(rows))))

    def test_the_desk_tells_the_same(self):
        for row in self.rows():
            desk = Desk()
            tree = tree_of(row)
            self.assertEqual(desk.say("row " + row_text(row)), "ok")
            self.assertEqual(desk.say("show"), row_text(row))
            self.assertEqual(desk.say("tree"), tree_text(tree))
            self.assertEqual(desk.say("flat"), row_text(flattest(tree)))
            self.assertEqual(desk.say("number"), str(number_of(tree)))
            self.assertEqual(desk.say("kin " + row_text(flattest(tree))), "yes")
            self.assertEqual(desk.say("near " + tree_text(tree)), "0: " + row_text(row))
            self.assertEqual(desk.say("stay " + tree_text(tree)), str(len(row)))


if __name__ == "__main__":
    unittest.main()
