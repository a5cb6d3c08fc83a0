"""A row that stands in a text with gaps: the least stretches that hold it, places, and how many there are."""

from dipkin.loosejudge import best_ahead, best_behind, need_loose, table_by
from dipkin.rows import need_stretch
from dipkin.trees import from_below, tree_of, young_of


def lies_within(pair, other):
    """Whether a stretch is another one and lies within it."""
    return pair != other and other[0] <= pair[0] and pair[1] <= other[1]


def least_stretches(row, text):
    """The stretches of the text that hold the row, and within which no lesser one does."""
    need_loose(row, text)
    tree = tree_of(row)
    tops = table_by(tree, text)[tree.index(-1)]
    pairs = sorted({pair for pair in tops if pair is not None})
    return [pair for pair in pairs if not any([lies_within(other, pair) for other in pairs])]


def places_by(tree, text, table, i):
    """The places of the text at which the row stands with its top at i, each as near to its elder as can be."""
    young = young_of(tree)
    chosen = {tree.index(-1): i}
    for v in from_below(tree)[::-1]:
        ahead, behind = young[v]
        if ahead is not None:
            chosen[ahead] = best_ahead(text, table[ahead], chosen[v])
        if behind is not None:
            chosen[behind] = best_behind(text, table[behind], chosen[v])
    return [chosen[v] for v in range(len(tree))]


def places_in(row, text, a, b):
    """A tuple of places from a to b at which the text holds the row, or None."""
    need_loose(row, text)
    need_stretch(len(text), a, b)
    tree = tree_of(row)
    within = text[a:b + 1]
    table = table_by(tree, within)
    for i, pair in enumerate(table[tree.index(-1)]):
        if pair is not None:
            return tuple([a + place for place in places_by(tree, within, table, i)])
    return None


class Holding:
    """Counts in how many ways the places of a row stand in a text."""

    def __init__(self, row, text):
        self.text = text
        self.tree = tree_of(row)
        self.young = young_of(self.tree)
        self.known = {}

    def ways(self, v, a, b):
        """In how many ways a place, or None, and those under it stand from a to b, right beside its elder's place."""
        if v is None:
            return 1
        if (v, a, b) not in self.known:
            fit = [i for i in range(a, b + 1) if self.fits(v, a, b, i)]
            self.known[(v, a, b)] = sum([self.ways_at(v, a, b, i) for i in fit])
        return self.known[(v, a, b)]

    def fits(self, v, a, b, i):
        """Whether a place can stand at i by its elder's number, which stands right ahead of a or right behind b."""
        elder = self.tree[v]
        if elder == -1:
            return True
        return self.text[i] >= self.text[a - 1] if elder < v else self.text[i] > self.text[b + 1]

    def ways_at(self, v, a, b, i):
        """In how many ways those under a place stand from a to b, where it stands at i."""
        ahead, behind = self.young[v]
        return self.ways(ahead, a, i - 1) * self.ways(behind, i + 1, b)


def many_loose(row, text):
    """How many tuples of places there are at which the text holds the row."""
    need_loose(row, text)
    holding = Holding(row, text)
    return holding.ways(holding.tree.index(-1), 0, len(text) - 1)
