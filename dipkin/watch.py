"""A watch over numbers as they come: which of its rows are kin to the last ones."""

from dipkin.errors import Empty, NoPast, TooMany
from dipkin.rows import need_numbers
from dipkin.seek import borders_by, follow, row_distances

MOST_WATCHED = 12


def need_watched(rows):
    """Refuse rows that no watch is made of."""
    if len(rows) == 0:
        raise Empty("no row to watch for")
    for row in rows:
        need_numbers(row)
    if max([len(rows)] + [len(row) for row in rows]) > MOST_WATCHED:
        raise TooMany(f"more than {MOST_WATCHED} rows, or numbers of a row, to watch for")


def next_distance(given, number):
    """How far ahead the nearest number not above the new one stands, 0 for none."""
    for back in range(1, len(given) + 1):
        if given[-back] <= number:
            return back
    return 0


class Watch:
    """Tells behind each number given which rows are kin to the last so many."""

    def __init__(self, rows):
        need_watched(rows)
        self.distances = [row_distances(row) for row in rows]
        self.borders = [borders_by(told) for told in self.distances]
        self.given = []
        # Behind each number given: of each row how many first numbers are kin to the last given. Nothing is lost
        # by a number more, so it is taken back by forgetting the last of these.
        self.sizes = [[0] * len(rows)]

    def give(self, number):
        """The numbers of the rows that are kin to the last so many, now that this one is given."""
        distance = next_distance(self.given, number)
        sizes = []
        for told, borders, size in zip(self.distances, self.borders, self.sizes[-1]):
            sizes.append(follow(told, borders, size, distance))
        self.given.append(number)
        self.sizes.append(sizes)
        return [at for at, size in enumerate(sizes) if size == len(self.distances[at])]

    def reach_now(self):
        """The greatest count of last numbers given that are kin to as many first ones of some row."""
        return max(self.sizes[-1])

    def how_many(self):
        """How many numbers are given and not taken back."""
        return len(self.given)

    def take_back(self):
        """The last number given, which is as though it had not been given."""
        if not self.given:
            raise NoPast("no number is given")
        self.sizes.pop()
        return self.given.pop()
