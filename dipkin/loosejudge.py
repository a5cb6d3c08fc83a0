"""The table of where the places of a row can stand in a text with gaps, and its judge."""

from dipkin.errors import TooMany
from dipkin.rows import need_numbers
from dipkin.trees import from_below, tree_of, young_of

MOST_HELD = 6
MOST_HOLDING = 16


def need_loose(row, text):
    """Refuse rows and texts that are not looked at with gaps."""
    need_numbers(row)
    if len(row) > MOST_HELD:
        raise TooMany(f"a row of more than {MOST_HELD} numbers")
    if len(text) > MOST_HOLDING:
        raise TooMany(f"a text of more than {MOST_HOLDING} numbers")


def best_ahead(text, pairs, i):
    """Where the place that hangs ahead of one at i stands, so that its first is the greatest; None for nowhere."""
    fit = [j for j in range(i) if pairs[j] is not None and text[j] > text[i] and pairs[j][1] < i]
    return max(fit, key=lambda j: pairs[j][0], default=None)


def best_behind(text, pairs, i):
    """Where the place that hangs behind one at i stands, so that its last is the least; None for nowhere."""
    fit = [j for j in range(i + 1, len(text)) if pairs[j] is not None and text[j] >= text[i] and pairs[j][0] > i]
    return min(fit, key=lambda j: pairs[j][1], default=None)


def pair_at(text, table, young, i):
    """The pair of a place at i, by the pairs of the two that hang under it."""
    ahead, behind = young
    first = last = i
    if ahead is not None:
        j = best_ahead(text, table[ahead], i)
        if j is None:
            return None
        first = table[ahead][j][0]
    if behind is not None:
        j = best_behind(text, table[behind], i)
        if j is None:
            return None
        last = table[behind][j][1]
    return (first, last)


def table_by(tree, text):
    """The table of a row, by its tree, and a text."""
    young = young_of(tree)
    table = [[] for v in tree]
    for v in from_below(tree):
        table[v] = [pair_at(text, table, young[v], i) for i in range(len(text))]
    return table


def table_of(row, text):
    """For each place of the row, and each of the text, None or the pair (first, last) within which it can stand."""
    need_loose(row, text)
    return table_by(tree_of(row), text)


def table_right(row, text, table):
    """Whether a list of lists is the table of the row and the text."""
    return table_of(row, text) == [list(pairs) for pairs in table]
