"""Rows and trees as texts, and back."""

from dipkin.errors import NoTelling, NoText
from dipkin.tellings import brackets_of, by_brackets
from dipkin.trees import MOST_PLACES

NOTHING = "-"
MOST_FIGURES = 60


def row_text(row):
    """The numbers of a row with one blank between, `-` where there is none."""
    return " ".join([str(number) for number in row]) if row else NOTHING


def tree_text(tree):
    """The brackets of a tree, `-` where it has no place."""
    brackets = brackets_of(tree)
    return brackets if brackets else NOTHING


def read_number(word):
    """The whole number that a word writes, None where it writes none."""
    figures = word.removeprefix("-")
    if len(figures) > MOST_FIGURES or not (figures.isascii() and figures.isdigit()):
        return None
    if figures.startswith("0") and word != "0":
        return None
    return int(word)


def read_row(text):
    """The row that a text writes."""
    if text == NOTHING:
        return ()
    numbers = [read_number(word) for word in text.split(" ")]
    if None in numbers or len(numbers) > MOST_PLACES:
        raise NoText("the text writes no row")
    return tuple(numbers)


def read_tree(text):
    """The tree that a text writes."""
    if text == NOTHING:
        return ()
    if text == "":
        raise NoText("an empty text writes no tree")
    try:
        return by_brackets(text)
    except NoTelling:
        raise NoText("the text writes no tree") from None
