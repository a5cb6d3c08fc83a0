"""The judge of what is told of a row sought in a text."""

from dipkin.rows import all_tuples, is_stretch, low_steps, need_numbers, parting, parts_at


def each_start_once(many, starts, others):
    """Whether each of so many starts stands in just one of two lists, once and in its turn."""
    here = [start for start in range(many) if start not in others]
    there = [start for start in range(many) if start in others]
    return starts == here and others == there


def starts_right(row, text, starts, others):
    """Whether starts are all starts of the row in the text, and others part it from each other one."""
    need_numbers(row)
    size = len(row)
    left = [start for start, a, b in others]
    if not all_tuples(others) or not each_start_once(len(text) - size + 1, list(starts), left):
        return False
    here = low_steps(row)
    there = low_steps(text)
    if not all([is_stretch(size, a, b) and parts_at(here, there, 0, start, a, b) for start, a, b in others]):
        return False
    return all([parting(here, there, 0, start, size) is None for start in starts])
