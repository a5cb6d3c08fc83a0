"""12.1: texts of rows and of trees, and back."""

import itertools
import re
import unittest

from dipkin.errors import NoText, NoTree
from dipkin.texts import read_row, read_tree, row_text, tree_text
from tests import plain

NUMBER = r"(?:0|-?[1-9][0-9]{0,59})"
ROW = re.compile(rf"-|{NUMBER}(?: {NUMBER}){{0,39}}")


def brackets(tree):
    """The brackets of a tree: each place, with those behind it that hang under it, and those ahead of it first."""
    def within(a, b):
        tops = [place for place in range(a, b) if not plain.over(tree, place) & set(range(a, b))]
        if not tops:
            return ""
        return within(a, tops[0]) + "(" + within(tops[0] + 1, b) + ")"

    return within(0, len(tree))


class Rows(plain.Case):
    def test_by_hand(self):
        self.assertEqual(row_text(()), "-")
        self.assertEqual(row_text([]), "-")
        self.assertEqual(row_text((0,)), "0")
        self.assertEqual(row_text([3, -1, 20]), "3 -1 20")
        self.assertEqual(read_row("-"), ())
        self.assertEqual(read_row("0"), (0,))
        self.assertEqual(read_row("3 -1 20"), (3, -1, 20))

    def test_there_and_back(self):
        for row in plain.some_rows():
            if len(row) <= 40:
                text = row_text(row)
                self.assertIsInstance(text, str)
                self.assertEqual(row_text(list(row)), text)
                self.assertEqual(text.split(" ") if row else [], [str(number) for number in row])
                self.assertIsInstance(read_row(text), tuple)
                self.assertEqual(read_row(text), row)

    def test_all_short_texts(self):
        for many in range(6):
            for signs in itertools.product("-01 9+", repeat=many):
                text = "".join(signs)
                if ROW.fullmatch(text):
                    self.assertEqual(row_text(read_row(text)), text)
                else:
                    self.refused(NoText, read_row, text)

    def test_sixty_figures(self):
        for text in ("9" * 60, "-" + "9" * 60, "1" + "0" * 59, "1 " + "-1" + "0" * 59):
            self.assertEqual(row_text(read_row(text)), text)
        for figures in (61, 62, 100, 5000):
            for text in ("9" * figures, "-" + "1" * figures, "1 " + "1" * figures, "1" + "0" * (figures - 1) + " 2"):
                self.refused(NoText, read_row, text)

    def test_forty_numbers(self):
        self.assertEqual(read_row(" ".join(["7"] * 40)), (7,) * 40)
        for many in (41, 42, 100, 5000):
            self.refused(NoText, read_row, " ".join(["7"] * many))

    def test_wrong_ones(self):
        for text in ("", " ", "  ", "--", "- ", " -", "- -", "- 1", "1 -", "1  2", " 1", "1 ", "1\n", "\n1", "1\n2", "\n",
                     "01", "00", "-0", "-01", "+1", "+0", "1,2", "1.0", "1e3", "0x1", "1_0", "1_000", "a", "one", "()",
                     "(1)", "1 a", "1;", "--1", "-1-", "1-2", "- 1 2", "1 2  3", "1 2 ", "1 -0", "1 02", "[1]", "~"):
            self.refused(NoText, read_row, text)
        for text in ("\u0661", "1\u00b2", "1\u00a02", "\u22121", "\t1", "1\r"):
            self.refused(NoText, read_row, text)


class Trees(plain.Case):
    def test_by_hand(self):
        self.assertEqual(tree_text(()), "-")
        self.assertEqual(tree_text((-1,)), "()")
        self.assertEqual(tree_text((1, -1, 3, 1, 3)), "()(()(()))")
        self.assertEqual(read_tree("-"), ())
        self.assertEqual(read_tree("()"), (-1,))
        self.assertEqual(read_tree("()(()(()))"), (1, -1, 3, 1, 3))

    def test_there_and_back(self):
        for tree in plain.some_trees():
            text = tree_text(tree)
            self.assertEqual(text, brackets(tree) or "-")
            self.assertIsInstance(read_tree(text), tuple)
            self.assertEqual(read_tree(text), tree)

    def test_all_short_texts(self):
        known = {tree_text(tree) for many in range(5) for tree in plain.all_trees(many)}
        for many in range(9):
            for signs in itertools.product("()-" if many < 7 else "()", repeat=many):
                text = "".join(signs)
                if text in known:
                    self.assertEqual(tree_text(read_tree(text)), text)
                else:
                    self.refused(NoText, read_tree, text)

    def test_forty_places(self):
        self.assertEqual(len(read_tree("()" * 40)), 40)
        self.assertEqual(len(read_tree("(" * 40 + ")" * 40)), 40)
        for many in (41, 42, 100, 5000):
            self.refused(NoText, read_tree, "()" * many)
            self.refused(NoText, read_tree, "(" * many + ")" * many)

    def test_wrong_ones(self):
        for text in ("", " ", "--", "- ", " -", "(", ")", ")(", "())", "(()", "() ", " ()", "() ()", "()\n", "\n", "( )",
                     "()-", "-()", "[]", "{}", "(1)", "1", "-1", "1 2", "())(", "()a", "(" * 40 + ")" * 39, "()" * 39 + "("):
            self.refused(NoText, read_tree, text)

    def test_no_tree(self):
        for tree in plain.no_trees():
            self.refused(NoTree, tree_text, tree)


class Steps(plain.Case):
    def test_few_steps(self):
        row = (plain.BIG,) * 40
        self.few_steps(row_text, row)
        self.few_steps(read_row, row_text(row))
        for tree in plain.some_trees()[-20:]:
            self.few_steps(tree_text, tree)
            self.few_steps(read_tree, tree_text(tree))


if __name__ == "__main__":
    unittest.main()
