"""A row sought in a text: starts, the stretches that part it from the others, borders and steps."""

from dipkin.rows import low_steps, need_numbers, parting
from dipkin.tellings import distance_list
from dipkin.trees import tree_of


def row_distances(row):
    """The distances of a row of any length."""
    return distance_list(tree_of(row))


def seen_within(distance, size):
    """A distance as it is where only so many places ahead are looked at."""
    return distance if distance <= size else 0


def follow(told, borders, size, distance):
    """How many first numbers of a row are kin to the last ones of a text, as one more comes.

    The row is told by its distances and borders; so many were kin ahead of the new number, whose distance is told.
    """
    while size == len(told) or told[size] != seen_within(distance, size):
        size = borders[size - 1]
    return size + 1


def borders_by(told):
    """The borders of a row, by its distances."""
    borders = [0] if told else []
    for distance in told[1:]:
        borders.append(follow(told, borders, borders[-1], distance))
    return borders


def borders_of(row):
    """For each count of the row's first numbers, how many fewer of its first are kin to the last of these."""
    return borders_by(row_distances(row))


def starts_of(row, text):
    """The starts at which the text has a stretch kin to the row."""
    need_numbers(row)
    told = row_distances(row)
    borders = borders_by(told)
    starts = []
    size = 0
    for place, distance in enumerate(row_distances(text)):
        size = follow(told, borders, size, distance)
        if size == len(told):
            starts.append(place - size + 1)
    return starts


def parted_starts(row, text):
    """For each other start (start, a, b), where (a, b) parts the row and the text's stretch."""
    need_numbers(row)
    ones = low_steps(row)
    others = low_steps(text)
    told = []
    for start in range(len(text) - len(row) + 1):
        stretch = parting(ones, others, 0, start, len(row))
        if stretch is not None:
            told.append((start,) + stretch)
    return told


def steps_of(row):
    """The steps by which the row can be moved on so that what covers is kin."""
    borders = borders_of(row)
    steps = []
    size = len(row)
    while size > 0:
        size = borders[size - 1]
        steps.append(len(row) - size)
    return steps
