"""A row that grows and shrinks at both ends: marks of its numbers, changes of their elders, deeds taken back."""

from dipkin.errors import NoPast, NoPlace, TooMany
from dipkin.rows import need_numbers
from dipkin.trees import MOST_PLACES, tree_of


def need_room(row):
    """Refuse to put a number on a row that has as many as a row can have."""
    if len(row) >= MOST_PLACES:
        raise TooMany(f"a row of {len(row)} numbers takes no more")


class Standing:
    """A row as it stands between two deeds, the mark of its first number, and its tree."""

    def __init__(self, row, first):
        self.row = tuple(row)
        # The next number put on a row without any has the mark 0, whatever marks there were.
        self.first = first if self.row else 0
        self.tree = tree_of(self.row)

    def has_mark(self, mark):
        """Whether a number of the row has this mark."""
        return 0 <= mark - self.first < len(self.row)

    def elder_mark(self, mark):
        """The mark of the elder of the number with this mark, None where it has none."""
        elder = self.tree[mark - self.first]
        return None if elder == -1 else self.first + elder


def changes_of(before, now):
    """The list of (mark, elder before, elder now) of the marks that stand in both and have another elder."""
    marks = [before.first + place for place in range(len(before.row)) if now.has_mark(before.first + place)]
    elders = [(mark, before.elder_mark(mark), now.elder_mark(mark)) for mark in marks]
    return [(mark, old, new) for mark, old, new in elders if old != new]


class Grown:
    """A row to whose ends numbers are put and from whose ends they are taken."""

    def __init__(self, row):
        # Behind each deed the row as it stands then: a deed is taken back by forgetting the last one.
        self.standings = [Standing(row, 0)]

    def go_on(self, row, first):
        """The changes of a deed behind which the row stands so."""
        now = Standing(row, first)
        changes = changes_of(self.standings[-1], now)
        self.standings.append(now)
        return changes

    def put_ahead(self, number):
        """Put a number ahead of the first one, and tell the changes."""
        now = self.standings[-1]
        need_room(now.row)
        return self.go_on((number,) + now.row, now.first - 1 if now.row else 0)

    def put_behind(self, number):
        """Put a number behind the last one, and tell the changes."""
        now = self.standings[-1]
        need_room(now.row)
        return self.go_on(now.row + (number,), now.first)

    def take_ahead(self):
        """Take the first number off, and tell the changes."""
        now = self.standings[-1]
        need_numbers(now.row)
        return self.go_on(now.row[1:], now.first + 1)

    def take_behind(self):
        """Take the last number off, and tell the changes."""
        now = self.standings[-1]
        need_numbers(now.row)
        return self.go_on(now.row[:-1], now.first)

    def take_back(self):
        """Take the last deed back, and tell the changes of that."""
        if len(self.standings) == 1:
            raise NoPast("no deed is left to be taken back")
        gone = self.standings.pop()
        return changes_of(gone, self.standings[-1])

    def row_now(self):
        """The list of the numbers."""
        return list(self.standings[-1].row)

    def first_mark(self):
        """The mark of the first number, 0 where there is none."""
        return self.standings[-1].first

    def elder_of(self, mark):
        """The mark of a number's elder, None where it has none."""
        now = self.standings[-1]
        if not now.has_mark(mark):
            raise NoPlace("no number has this mark")
        return now.elder_mark(mark)

    def tree_now(self):
        """The tree of the row."""
        return self.standings[-1].tree
