"""12.2 and 12.3: the desk, its deeds and questions, and what it refuses."""

import itertools
import random
import re
import unittest

from dipkin.desk import Desk
from dipkin.errors import Empty, NoLine, NoPast, NoPlace, NoText, TooMany, Unlike
from dipkin.nearest import nearest, nearest_right
from dipkin.numbers import number_of
from dipkin.stay import most_stay
from tests import plain
from tests.test_loose import least_plain
from tests.test_texts import NUMBER, ROW, brackets

QUESTIONS = ("show", "tree", "flat", "number", "low 0 0", "kin -", "kin 1 2", "seek 1", "seek 2 1", "holds 1", "near -",
             "near ()", "stay -", "stay ()")


def text_of(row):
    return " ".join(map(str, row)) or "-"


def numbers_of(text):
    """The row that a text writes, by the words; NoText where it writes none."""
    if not ROW.fullmatch(text):
        raise NoText(text)
    return () if text == "-" else tuple(int(word) for word in text.split(" "))


def tree_of(text):
    """The tree that a text writes: numbers rise by the depth of the brackets, and fall within one depth."""
    if text == "-":
        return ()
    depth, row = 0, []
    for sign in text:
        if sign not in "()":
            raise NoText(text)
        if sign == "(":
            row.append(1000 * depth - len(row))
        depth += 1 if sign == "(" else -1
        if depth < 0:
            raise NoText(text)
    if depth or not row or len(row) > 40:
        raise NoText(text)
    return plain.tree(row)


class Plain:
    """The desk by the words; near and stay are asked of the modules, whose own tests go through all rows."""

    def __init__(self):
        self.past = [()]

    def say(self, line):
        row = self.past[-1]
        if not re.fullmatch(r"[^ ]+(?: [^ ]+)*", line):
            raise NoLine(line)
        if line == "back":
            if len(self.past) == 1:
                raise NoPast(line)
            self.past.pop()
            return "ok"
        found = re.fullmatch(rf"(ahead|behind) ({NUMBER})", line)
        if found or line in ("off ahead", "off behind"):
            return self.at_an_end(row, found, line)
        found = re.fullmatch(r"(row|kin|seek|holds) (.+)", line, re.S)
        if found:
            return self.of_row(row, found[1], numbers_of(found[2]))
        found = re.fullmatch(r"(near|stay) ([^ ]+)", line)
        if found:
            tree = tree_of(found[2])
            return self.of_tree(row, found[1], tree)
        found = re.fullmatch(rf"low ({NUMBER}) ({NUMBER})", line)
        if found:
            a, b = int(found[1]), int(found[2])
            if not 0 <= a <= b < len(row):
                raise NoPlace(line)
            return str(plain.low(row, a, b))
        return self.of_itself(row, line)

    def at_an_end(self, row, found, line):
        if found:
            if len(row) == 40:
                raise TooMany(line)
            number = (int(found[2]),)
            self.past.append(number + row if found[1] == "ahead" else row + number)
        else:
            if not row:
                raise Empty(line)
            self.past.append(row[1:] if line == "off ahead" else row[:-1])
        return "ok"

    def of_row(self, row, word, other):
        if word == "row":
            self.past.append(other)
            return "ok"
        if word == "kin":
            if len(row) != len(other):
                return "no"
            return " ".join(map(str, ("parted",) + plain.partings(row, other)[0])) if plain.partings(row, other) else "yes"
        if not other:
            raise Empty(word)
        if word == "seek":
            starts = [at for at in range(len(row) - len(other) + 1)
                      if plain.tree(row[at:at + len(other)]) == plain.tree(other)]
            return " ".join(map(str, starts)) or "none"
        if len(other) > 6 or len(row) > 16:
            raise TooMany(word)
        return " ".join(f"{a}-{b}" for a, b in least_plain(other, row)) or "none"

    def of_tree(self, row, word, tree):
        if len(row) != len(tree):
            raise Unlike(word)
        if word == "stay":
            return str(len(most_stay(tree, row)[0]))
        return ("near", tree, nearest(tree, row)[0])

    def of_itself(self, row, line):
        if line == "show":
            return text_of(row)
        if line == "tree":
            return brackets(plain.tree(row)) or "-"
        if line == "flat":
            return text_of(plain.flat(plain.tree(row)))
        if line == "number":
            return str(number_of(plain.tree(row)))
        raise NoLine(line)


class Asked(plain.Case):
    def same(self, desk, model, line):
        """The desk answers, or refuses, as the words say."""
        try:
            wanted = model.say(line)
        except ValueError as error:
            self.refused(type(error), desk.say, line)
            return
        told = desk.say(line)
        self.assertIsInstance(told, str)
        if isinstance(wanted, tuple):
            self.near_is_so(model.past[-1], told, *wanted[1:])
        else:
            self.assertEqual(told, wanted, (model.past[-1], line))

    def near_is_so(self, row, told, tree, far):
        head, text = told.split(": ")
        self.assertEqual(head, str(far))
        made = () if text == "-" else tuple(int(word) for word in text.split(" "))
        self.assertEqual(text, text_of(made))
        self.assertTrue(nearest_right(tree, row, far, made, nearest(tree, row)[2]))

    def by_hand(self, desk, *pairs):
        for line, told in pairs:
            self.assertEqual(desk.say(line), told, line)


class ByHand(Asked):
    def test_a_desk_without_numbers(self):
        desk = Desk()
        self.by_hand(desk, ("show", "-"), ("tree", "-"), ("flat", "-"), ("number", "0"), ("kin -", "yes"), ("kin 1", "no"),
                     ("seek 1", "none"), ("holds 1", "none"), ("near -", "0: -"), ("stay -", "0"))
        self.refused(NoPlace, desk.say, "low 0 0")
        self.refused(Empty, desk.say, "off ahead")
        self.refused(Empty, desk.say, "off behind")
        self.refused(Empty, desk.say, "seek -")
        self.refused(Empty, desk.say, "holds -")
        self.refused(NoPast, desk.say, "back")
        self.refused(Unlike, desk.say, "near ()")
        self.refused(Unlike, desk.say, "stay ()")

    def test_deeds(self):
        desk = Desk()
        self.by_hand(desk, ("row 3 1 2", "ok"), ("ahead 5", "ok"), ("behind -4", "ok"), ("show", "5 3 1 2 -4"),
                     ("off ahead", "ok"), ("show", "3 1 2 -4"), ("off behind", "ok"), ("show", "3 1 2"),
                     ("row -", "ok"), ("show", "-"), ("back", "ok"), ("show", "3 1 2"), ("back", "ok"),
                     ("show", "3 1 2 -4"), ("back", "ok"), ("show", "5 3 1 2 -4"), ("back", "ok"), ("show", "5 3 1 2"),
                     ("back", "ok"), ("show", "3 1 2"), ("back", "ok"), ("show", "-"))
        self.refused(NoPast, desk.say, "back")

    def test_questions(self):
        desk = Desk()
        self.by_hand(desk, ("row 3 1 2 1 5", "ok"), ("tree", "()(()(()))"), ("low 0 4", "1"), ("low 2 4", "3"),
                     ("low 4 4", "4"), ("flat", "1 0 1 0 0"), ("kin 9 0 7 0 0", "yes"), ("kin 1 2", "no"),
                     ("kin 0 0 0 0 0", "parted 0 1"), ("kin -", "no"), ("seek 2 1", "0 2"), ("seek 3 2 1", "none"),
                     ("seek 7", "0 1 2 3 4"), ("seek 1 2 3 4 5 6", "none"), ("holds 1 2 3", "1-4"), ("holds 2 1", "0-1 2-3"),
                     ("holds 3 2 1", "0-3"), ("holds 4 3 2 1", "none"), ("near ()(()(()))", "0: 3 1 2 1 5"), ("stay ()(()(()))", "5"),
                     ("stay (((((" + ")))))", "3"), ("show", "3 1 2 1 5"))
        self.assertEqual(desk.say("near ((((()))))").split(": ")[0], "1")

    def test_numbers_of_trees(self):
        for many in range(6):
            trees = [plain.tree(row) for row in itertools.product(range(many + 1), repeat=many)]
            texts = {tree: brackets(tree) for tree in trees}
            # The order of drops is that of brackets where a `(` stands ahead of a `)`.
            for at, tree in enumerate(sorted(set(trees), key=lambda one: texts[one])):
                desk = Desk()
                self.by_hand(desk, ("row " + text_of(plain.flat(tree)), "ok"), ("number", str(at)))

    def test_deeds_that_change_nothing_stand(self):
        desk = Desk()
        self.by_hand(desk, ("row -", "ok"), ("row 1", "ok"), ("row 1", "ok"), ("back", "ok"), ("show", "1"), ("back", "ok"),
                     ("show", "-"), ("back", "ok"))
        self.refused(NoPast, desk.say, "back")

    def test_two_desks_are_apart(self):
        one, other = Desk(), Desk()
        one.say("row 1 2")
        self.assertEqual((one.say("show"), other.say("show")), ("1 2", "-"))
        self.refused(NoPast, other.say, "back")

    def test_two_hundred_deeds_standing(self):
        desk, model = Desk(), Plain()
        source = random.Random(19)
        while len(model.past) <= 200:
            line = source.choice([f"ahead {source.randint(-9, 9)}", f"behind {source.randint(-9, 9)}", "off ahead",
                                  "off behind", "row -", "row 4 -4 4", "row " + text_of([source.randint(0, 5)] * 30)])
            self.same(desk, model, line)
        for _ in range(200):
            self.same(desk, model, "show")
            self.same(desk, model, "tree")
            self.same(desk, model, "back")
        self.same(desk, model, "show")
        self.same(desk, model, "back")

    def test_forty_numbers(self):
        desk, model = Desk(), Plain()
        for number in range(40):
            self.same(desk, model, ("ahead", "behind")[number % 2] + f" {number}")
        for line in ("ahead 1", "behind 1", "show", "tree", "number", "flat", "low 0 39", "low 0 40", "seek 1 2 3", "holds 1",
                     "off ahead", "behind 7", "behind 7", "back", "back", "ahead 8", "show", "near " + "()" * 40,
                     "near " + "()" * 39, "stay " + "(" * 40 + ")" * 40, "near " + "()" * 41, "kin " + text_of(range(40))):
            self.same(desk, model, line)

    def test_numbers_of_sixty_figures(self):
        desk, model = Desk(), Plain()
        big = "9" * 60
        for line in (f"row {big} -{big}", f"ahead -{big}", f"behind {big}", "show", "tree", "near ((()))", "near ()()()()",
                     "stay (((())))", f"kin {big} -{big} {big} {big}", f"ahead 9{big}", f"row 9{big}", f"low 0 {big}",
                     f"low -{big} 0", f"low 0 9{big}", "show"):
            self.same(desk, model, line)

    def test_holds_at_its_bounds(self):
        desk, model = Desk(), Plain()
        for many in (16, 17):
            self.same(desk, model, "row " + text_of([at % 5 for at in range(many)]))
            for size in (1, 6, 7, 40):
                self.same(desk, model, "holds " + text_of([at % 3 for at in range(size)]))
            self.same(desk, model, "holds -")


def wrong_lines():
    """Lines with other words, more, fewer or empty ones, and numbers that are not so written."""
    lines = ["", " ", "  ", "\n", "x", "Show", "SHOW", "sho", "shows", "rows 1", "row", "row ", "kin", "kin ", "seek", "seek ",
             "holds", "holds ", "near", "near ", "stay", "stay ", "ahead", "ahead ", "behind", "behind ", "off", "off ", "low",
             "low ", "low 0", "low 0 ", "low  0", "low 0  0", "low 0 0 0", "low 0 0 ", "low  0 0", "low 0\n0", "low 0,0",
             "off  ahead", "off ahead ", "off ahead 1", "off 1", "off off", "off back", "ahead off", "off ahead behind",
             "on ahead", "x behind", "show ahead", "back behind", " ahead", "of behind",
             "near () ()", "near ( )", "near () ", "near  ()", "stay () x", "stay - -", "-", "1", "()", "yes", "none", "ok"]
    for word in ("show", "tree", "flat", "number", "back"):
        lines += [f" {word}", f"{word} ", f"{word} 1", f"{word}  ", f"{word}\n", f"\n{word}", f"{word} {word}", f"{word}-"]
    for bad in ("x", "01", "-0", "+1", "00", "1.0", "", "1 2", " 1", "1 ", "--1", "-", "1_0", "9" * 61, "9" * 5000, "1\n"):
        lines += [f"ahead {bad}", f"behind {bad}", f"low {bad} 0" if " " not in bad else "low 1 1 1", f"low 0 {bad}x"]
    return lines


def wrong_texts():
    """Lines whose TEXT or TREE is not so written."""
    rows = ["x", "k1", "01", "-0", "+1", "1\n", "--", "- -", "1 -", "9" * 61, "-" + "9" * 61, " ".join(["1"] * 41), "()",
            "1,2", "1 x", "\n", "1\n2", "\n 1", "1 \n"]
    trees = ["x", "(", ")", ")(", "())", "(()", "1", "()\n", "--", "()-", "-()", "()" * 41, "[]", "\n"]
    lines = [f"{word} {text}" for word in ("row", "kin", "seek", "holds") for text in rows]
    return lines + [f"{word} {text}" for word in ("near", "stay") for text in trees]


def with_empty_words(line):
    """A line of words, with one empty word or two ahead of each of its words, or behind the last one."""
    words = line.split(" ")
    return [" ".join(words[:at] + [""] * many + words[at:]) for at in range(len(words) + 1) for many in (1, 2)]


class Refused(Asked):
    ROWS = ((), (5,), (3, 1, 2), (2, 2), tuple(range(17)), tuple(range(40)))

    def desk_with(self, row):
        """A desk at which two deeds stand, the second of which put this row there."""
        desk = Desk()
        self.by_hand(desk, ("row 8 9", "ok"), ("row " + text_of(row), "ok"))
        return desk

    def unchanged(self, error, row, line):
        """The line is refused, and behind it the desk answers as though it had not been asked."""
        desk, other = self.desk_with(row), self.desk_with(row)
        self.refused(error, desk.say, line)
        for question in QUESTIONS:
            try:
                wanted = other.say(question)
            except ValueError as refusal:
                self.refused(type(refusal), desk.say, question)
            else:
                self.assertEqual(desk.say(question), wanted)
        self.assertEqual([desk.say(word) for word in ("back", "show", "back", "show")], ["ok", "8 9", "ok", "-"])
        self.refused(NoPast, desk.say, "back")

    def test_no_line(self):
        for row in ((), (3, 1, 2)):
            for line in wrong_lines():
                self.unchanged(NoLine, row, line)
        for line in wrong_lines():
            self.refused(NoLine, Desk().say, line)

    def test_no_line_ahead_of_too_many_and_empty(self):
        for line in ("ahead x", "behind 01", "ahead 1 2", "ahead", "behind "):
            self.unchanged(NoLine, tuple(range(40)), line)
        for line in ("off", "off x", "off ahead ", "back ", "low 5", "low x 9"):
            self.unchanged(NoLine, (), line)

    def test_no_text(self):
        for row in ((), (3, 1, 2)):
            for line in wrong_texts():
                self.unchanged(NoText, row, line)

    def test_empty_words_in_each_kind_of_line(self):
        kinds = ("row 1 2", "row 7", "row -", "ahead 1", "behind -2", "off ahead", "off behind", "back", "show", "tree",
                 "low 0 2", "flat", "number", "kin 3 1 2", "kin 1", "kin -", "seek 2 1", "seek 1", "holds 1 2", "holds 1",
                 "near ()(())", "stay ()(())")
        for kind in kinds:
            self.assertIsInstance(self.desk_with((3, 1, 2)).say(kind), str)
            for line in with_empty_words(kind):
                self.unchanged(NoLine, (3, 1, 2), line)

    def test_empty_words_ahead_of_no_text(self):
        for wrong in wrong_texts():
            for line in with_empty_words(wrong):
                self.refused(NoLine, self.desk_with((3, 1, 2)).say, line)
        for line in ("row  k1", "kin x ", "seek 01  1", "holds  " + " ".join(["1"] * 41), "near  )(", "stay x "):
            self.unchanged(NoLine, (0, 2, 1, 0, 0), line)

    def test_empty_words_ahead_of_all_else(self):
        due = (((), ("off ahead", "off behind", "low 0 0", "seek -", "holds -", "near ()", "stay ()")),
               (tuple(range(17)), ("holds 1", "low 3 17", "seek -", "holds 1 2 3 4 5 6 7", "near -", "stay ()")),
               (tuple(range(40)), ("ahead 1", "behind 1")))
        for row, lines in due:
            for line in [one for right in lines for one in with_empty_words(right)]:
                self.unchanged(NoLine, row, line)
        for line in with_empty_words("back"):
            self.refused(NoLine, Desk().say, line)

    def test_empty_words_by_blanks_alone(self):
        for many in range(1, 6):
            for line in (" " * many, "row" + " " * many, " " * many + "row", "kin" + " " * many, "seek" + " " * many,
                         "holds" + " " * many):
                self.unchanged(NoLine, (3, 1, 2), line)

    def test_no_text_ahead_of_all_else(self):
        for line in ("near )(", "stay x", "seek --", "holds - -", "holds " + " ".join(["1"] * 41)):
            self.unchanged(NoText, tuple(range(17)), line)

    def test_as_told(self):
        for row in self.ROWS:
            many = len(row)
            for a, b in plain.some_pairs(many):
                if max(abs(a), abs(b)) < 10 ** 60:
                    self.unchanged(NoPlace, row, f"low {a} {b}")
            self.unchanged(Empty, row, "seek -")
            self.unchanged(Empty, row, "holds -")
            self.unchanged(TooMany, row, "holds 1 2 3 4 5 6 7")
            for size in {0, 1, 2, 3, 39, 40, many + 1} - {many, 41}:
                self.unchanged(Unlike, row, "near " + ("()" * size or "-"))
                self.unchanged(Unlike, row, "stay " + ("(" * size + ")" * size or "-"))
        self.unchanged(TooMany, tuple(range(17)), "holds 1")
        self.unchanged(TooMany, tuple(range(40)), "ahead 1")
        self.unchanged(TooMany, tuple(range(40)), "behind -1")
        self.unchanged(Empty, (), "off ahead")
        self.unchanged(Empty, (), "off behind")


class Mixed(Asked):
    def line(self, source):
        """Some line, mostly a right one."""
        row = text_of([source.randint(0, 4) for _ in range(source.choice((0, 1, 2, 3, 4, 5, 8)))])
        tree = brackets(plain.tree([source.randint(0, 4) for _ in range(source.choice((0, 1, 2, 3, 4, 5)))])) or "-"
        number = str(source.choice((0, 1, -1, 2, 5, 7, -plain.BIG)))
        return source.choice((
            f"row {row}", f"ahead {number}", f"behind {number}", f"ahead {number}", f"behind {number}", "off ahead",
            "off behind", "back", "back", "show", "tree", f"low {source.randint(0, 3)} {source.randint(0, 5)}", "flat",
            "number", f"kin {row}", f"seek {row}", f"holds {row}", f"near {tree}", f"stay {tree}",
            source.choice(wrong_lines()), source.choice(wrong_texts()), source.choice(with_empty_words(f"row {row}"))))

    def test_lines_by_chance(self):
        for seed in range(12):
            source = random.Random(seed)
            desk, model = Desk(), Plain()
            for _ in range(250):
                self.same(desk, model, self.line(source))
                self.assertEqual(desk.say("show"), text_of(model.past[-1]))

    def test_questions_are_no_deeds(self):
        desk = Desk()
        desk.say("row 3 1 2")
        for question in ("show", "tree", "low 0 2", "flat", "number", "kin 1 2 3", "seek 1", "holds 1", "near ()()()",
                         "stay ()()()"):
            desk.say(question)
        self.assertEqual([desk.say(line) for line in ("back", "show")], ["ok", "-"])
        self.refused(NoPast, desk.say, "back")

    def test_few_steps(self):
        for row in (tuple(range(40)), tuple(range(40, 0, -1)), (7,) * 40):
            desk = Desk()
            desk.say("row " + text_of(row))
            for line in ("show", "tree", "low 0 39", "flat", "number", "kin " + text_of(range(40)), "seek 1 2 3",
                         "near " + "()" * 40, "stay " + "(" * 40 + ")" * 40, "off ahead", "behind 1", "back"):
                self.few_steps(desk.say, line)


if __name__ == "__main__":
    unittest.main()
