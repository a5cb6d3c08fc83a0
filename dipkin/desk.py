"""A desk that keeps a row, and is told lines: deeds that change it, and questions."""

from dipkin.errors import NoLine, NoPast
from dipkin.flattest import flattest
from dipkin.grown import need_room
from dipkin.loose import least_stretches
from dipkin.nearest import nearest
from dipkin.numbers import number_of
from dipkin.rows import low, need_numbers, parted
from dipkin.seek import starts_of
from dipkin.stay import most_stay
from dipkin.texts import read_number, read_row, read_tree, row_text, tree_text
from dipkin.trees import tree_of


def tell_row(row):
    """The row."""
    return row_text(row)


def tell_tree(row):
    """The tree of the row."""
    return tree_text(tree_of(row))


def tell_flat(row):
    """The flattest row of the row's tree."""
    return row_text(flattest(tree_of(row)))


def tell_number(row):
    """The number of the row's tree."""
    return str(number_of(tree_of(row)))


def tell_kin(row, other):
    """Whether another row is kin to the row, and what parts them where it has as many numbers."""
    if len(row) != len(other):
        return "no"
    stretch = parted(row, other)
    return "yes" if stretch is None else f"parted {stretch[0]} {stretch[1]}"


def tell_all(words):
    """The words with one blank between, `none` where there are none."""
    return " ".join(words) if words else "none"


def tell_starts(row, sought):
    """The starts of another row in the row."""
    return tell_all([str(start) for start in starts_of(sought, row)])


def tell_stretches(row, held):
    """The least stretches of the row that hold another one."""
    return tell_all([f"{a}-{b}" for a, b in least_stretches(held, row)])


def tell_near(row, tree):
    """How far the nearest row of a tree is, and that row."""
    far, made, pair = nearest(tree, row)
    return f"{far}: {row_text(made)}"


def tell_stay(row, tree):
    """How many numbers of the row can stay in a row of a tree."""
    return str(len(most_stay(tree, row)[0]))


ASKED = {"show": tell_row, "tree": tell_tree, "flat": tell_flat, "number": tell_number}
ASKED_OF_ROWS = {"kin": tell_kin, "seek": tell_starts, "holds": tell_stretches}
ASKED_OF_TREES = {"near": tell_near, "stay": tell_stay}


def need_words(line):
    """Refuse a line with an empty word, whatever it speaks of: a row's text is words of the line, too."""
    if "" in line.split(" "):
        raise NoLine("a word of the line is empty")


def numbers_behind(rest, many):
    """The so many numbers that are all behind a line's first word."""
    numbers = [read_number(word) for word in rest.split(" ")]
    if len(numbers) != many or None in numbers:
        raise NoLine(f"behind the word stand not {many} numbers")
    return numbers


def row_behind(rest):
    """The row whose text is all behind a line's first word."""
    if rest == "":
        raise NoLine("behind the word stands no text of a row")
    return read_row(rest)


def tree_behind(rest):
    """The tree whose text is the one word behind a line's first."""
    if rest == "" or " " in rest:
        raise NoLine("behind the word stands not one text of a tree")
    return read_tree(rest)


def row_by_deed(row, word, rest):
    """The row as it is behind a deed, by the line's first word and what is behind it."""
    if word == "row":
        return row_behind(rest)
    if word in ("ahead", "behind"):
        numbers = tuple(numbers_behind(rest, 1))
        need_room(row)
        return numbers + row if word == "ahead" else row + numbers
    if word == "off" and rest in ("ahead", "behind"):
        need_numbers(row)
        return row[1:] if rest == "ahead" else row[:-1]
    raise NoLine("no such line")


class Desk:
    """Keeps a row, and answers lines."""

    def __init__(self):
        # Behind each deed that stands the row as it is then.
        self.rows = [()]

    def say(self, line):
        """The answer to a line."""
        need_words(line)
        row = self.rows[-1]
        word, blank, rest = line.partition(" ")
        if line in ASKED:
            tell = ASKED[line]
            return tell(row)
        if word in ASKED_OF_ROWS:
            tell_of_row = ASKED_OF_ROWS[word]
            return tell_of_row(row, row_behind(rest))
        if word in ASKED_OF_TREES:
            tell_of_tree = ASKED_OF_TREES[word]
            return tell_of_tree(row, tree_behind(rest))
        if word == "low":
            a, b = numbers_behind(rest, 2)
            return str(low(row, a, b))
        if line == "back":
            self.go_back()
        else:
            self.rows.append(row_by_deed(row, word, rest))
        return "ok"

    def go_back(self):
        """Take the last deed that stands back."""
        if len(self.rows) == 1:
            raise NoPast("no deed stands")
        self.rows.pop()
