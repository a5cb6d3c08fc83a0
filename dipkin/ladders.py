"""Ladders: the lows of all stretches of 1, 2, 4 and so on places."""

from dipkin.rows import lesser, need_stretch


def next_rung(row, rung, width):
    """The lows of the stretches twice as wide as those of this rung."""
    return [lesser(row, rung[a], rung[a + width]) for a in range(len(row) - 2 * width + 1)]


def ladder_of(row):
    """The list of the row's rungs."""
    ladder = []
    rung = list(range(len(row)))
    width = 1
    while rung:
        ladder.append(rung)
        rung = next_rung(row, rung, width)
        width *= 2
    return ladder


def ladder_low(row, ladder, a, b):
    """The low of a stretch, by two lows of one rung that together cover it."""
    need_stretch(len(row), a, b)
    k = (b - a + 1).bit_length() - 1
    width = 1 << k
    return lesser(row, ladder[k][a], ladder[k][b - width + 1])


def ladder_right(row, ladder):
    """Whether a list of lists is the row's ladder."""
    return [list(rung) for rung in ladder] == ladder_of(row)
