"""2.1 to 2.4: distances, drops, brackets, and the ways back to the tree."""

import itertools
import unittest

from dipkin.errors import NoTelling, NoTree
from dipkin.tellings import brackets_of, by_brackets, by_distances, by_drops, distances_of, drops_of
from dipkin.trees import tree_of
from tests import plain


def distances_plain(row):
    told = []
    for place in range(len(row)):
        ahead = [at for at in range(place) if row[at] <= row[place]]
        told.append(place - ahead[-1] if ahead else 0)
    return tuple(told)


def drops_plain(row):
    """The drops of a row, and how many places are open behind its last one."""
    told, still = [], []
    for number in row:
        left = [other for other in still if not number < other]
        told.append(len(still) - len(left))
        still = left + [number]
    return tuple(told), len(still)


def brackets_plain(row):
    drops, still = drops_plain(row)
    return "".join(")" * drop + "(" for drop in drops) + ")" * still


def are_brackets(text):
    """By the last words of 2.4."""
    ahead = [text[:at].count(")") <= text[:at].count("(") for at in range(len(text) + 1)]
    return set(text) <= set("()") and text.count("(") == text.count(")") and all(ahead)


class Told(plain.Case):
    def test_by_hand(self):
        tree = (1, -1, 3, 1, 3)
        self.assertEqual(distances_of(tree), (0, 0, 1, 2, 1))
        self.assertEqual(drops_of(tree), (0, 1, 0, 1, 0))
        self.assertEqual(brackets_of(tree), "()(()(()))")
        self.assertEqual(brackets_of((1, -1)), "()()")
        self.assertEqual(brackets_of((-1, 0)), "(())")

    def test_no_place_and_one(self):
        self.assertEqual((distances_of(()), drops_of(()), brackets_of(())), ((), (), ""))
        self.assertEqual((distances_of((-1,)), drops_of((-1,)), brackets_of((-1,))), ((0,), (0,), "()"))

    def test_forty_places(self):
        rising, falling = tuple(range(-1, 39)), tuple(range(1, 40)) + (-1,)
        self.assertEqual(distances_of(rising), (0,) + (1,) * 39)
        self.assertEqual(distances_of(falling), (0,) * 40)
        self.assertEqual(drops_of(rising), (0,) * 40)
        self.assertEqual(drops_of(falling), (0,) + (1,) * 39)
        self.assertEqual(brackets_of(rising), "(" * 40 + ")" * 40)
        self.assertEqual(brackets_of(falling), "()" * 40)
        self.assertEqual(drops_of(tree_of(tuple(range(39)) + (-1,))), (0,) * 39 + (39,))

    def test_by_the_rows(self):
        for row in plain.some_rows() + [row for many in range(6) for row in plain.all_rows(many, 3)]:
            if len(row) <= 40:
                tree = plain.tree(row)
                self.assertEqual(distances_of(tree), distances_plain(row))
                self.assertEqual(drops_of(tree), drops_plain(row)[0])
                self.assertEqual(brackets_of(tree), brackets_plain(row))

    def test_kin_rows_alone_have_the_same_ones(self):
        rows = list(plain.all_rows(4, 3))
        for one, other in itertools.product(rows, rows):
            same = plain.tree(one) == plain.tree(other)
            for told_of in (distances_of, drops_of, brackets_of):
                self.assertEqual(told_of(tree_of(one)) == told_of(tree_of(other)), same)

    def test_no_tree(self):
        for told in plain.no_trees():
            for told_of in (distances_of, drops_of, brackets_of):
                self.refused(NoTree, told_of, told)

    def test_few_steps(self):
        for tree in plain.some_trees()[-40:]:
            for told_of in (distances_of, drops_of, brackets_of):
                self.few_steps(told_of, tree)


class Back(plain.Case):
    def test_each_telling_leads_back(self):
        for tree in plain.some_trees():
            self.assertEqual(by_distances(distances_of(tree)), tree)
            self.assertEqual(by_drops(drops_of(tree)), tree)
            self.assertEqual(by_brackets(brackets_of(tree)), tree)

    def test_by_hand(self):
        self.assertEqual((by_distances(()), by_drops(()), by_brackets("")), ((), (), ()))
        self.assertEqual(by_distances((0, 0, 1, 2, 1)), (1, -1, 3, 1, 3))
        self.assertEqual(by_drops((0, 1, 0, 1, 0)), (1, -1, 3, 1, 3))
        self.assertEqual(by_brackets("()(()(()))"), (1, -1, 3, 1, 3))

    def test_all_small_tuples(self):
        for many in range(6):
            trees = plain.all_trees(many)
            rows = list(plain.all_rows(many, many))
            distances = {distances_plain(row): plain.tree(row) for row in rows}
            drops = {drops_plain(row)[0]: plain.tree(row) for row in rows}
            self.assertEqual((len(distances), len(drops)), (len(trees), len(trees)))
            for told in itertools.product(range(-1, many + 1), repeat=many):
                self.leads_back(by_distances, told, distances)
                self.leads_back(by_drops, told, drops)

    def leads_back(self, back, told, wanted):
        if told in wanted:
            self.assertEqual(back(told), wanted[told])
        else:
            self.refused(NoTelling, back, told)

    def test_all_small_texts(self):
        for many in range(5):
            wanted = {brackets_plain(row): plain.tree(row) for row in plain.all_rows(many, many)}
            for signs in itertools.product("()", repeat=2 * many):
                self.assertEqual("".join(signs) in wanted, are_brackets("".join(signs)))
                self.leads_back(by_brackets, "".join(signs), wanted)
            for signs in itertools.product("()", repeat=2 * many + 1):
                self.refused(NoTelling, by_brackets, "".join(signs))

    def test_wrong_tuples(self):
        for told in [(1,), (-1,), (0, 2), (0, -1), (0, 0, 2), (0, 0, 3), (0, 1, 1, -1), (0, 1, 0, 2), (0,) * 39 + (40,)]:
            self.refused(NoTelling, by_distances, told)
        for told in [(1,), (-1,), (0, 2), (0, -1), (0, 1, 2), (0, 0, 3), (0, 1, 1, -1), (0,) * 39 + (40,)]:
            self.refused(NoTelling, by_drops, told)
        for far in plain.FAR:
            for told in [(far,), (0, far), (far, 0), (0,) * 39 + (far,)]:
                self.refused(NoTelling, by_distances, told)
                self.refused(NoTelling, by_drops, told)

    def test_forty_and_one_more(self):
        self.assertEqual(by_distances((0,) * 40), tuple(range(1, 40)) + (-1,))
        self.assertEqual(by_drops((0,) * 40), tuple(range(-1, 39)))
        self.assertEqual(by_brackets("()" * 40), tuple(range(1, 40)) + (-1,))
        for told in ((0,) * 41, (0,) + (1,) * 40, (0,) * 500):
            self.refused(NoTelling, by_distances, told)
            self.refused(NoTelling, by_drops, told)
        for text in ("()" * 41, "(" * 41 + ")" * 41, "(" * 82, ")" * 82):
            self.refused(NoTelling, by_brackets, text)

    def test_a_list_is_none(self):
        self.refused(NoTelling, by_distances, [0, 1])
        self.refused(NoTelling, by_drops, [0, 1])

    def test_wrong_texts(self):
        wrong = [
            "(", ")", ")(", "())", "(()", "())(", "(()))(", " ", "() ", " ()", "( )", "()\n", "[]", "(]", "-", "(a)",
            "()-", "0", "~", "()()x", "((" + ")" * 3, "()" * 20 + "(", "()" * 20 + ")", "(" * 40 + ")" * 39 + " ",
        ]
        for text in wrong:
            self.refused(NoTelling, by_brackets, text)

    def test_few_steps(self):
        for tree in plain.some_trees()[-40:]:
            self.few_steps(by_distances, distances_of(tree))
            self.few_steps(by_drops, drops_of(tree))
            self.few_steps(by_brackets, brackets_of(tree))


if __name__ == "__main__":
    unittest.main()
