"""10.1 and 10.2: places that clash, the most that stay, the row made, the chains, and the judge."""

import itertools
import random
import unittest

from dipkin.errors import NoTree, Unlike
from dipkin.stay import clashing, most_stay
from dipkin.stayjudge import stay_right
from tests import plain


def clash_pairs(tree, row):
    """All pairs that clash, by the words of 10.1."""
    flat = plain.flat(tree)
    return sorted((a, b) for b in range(len(tree)) for a in plain.over(tree, b)
                  if row[a] + flat[b] - flat[a] > row[b])


def most_plain(tree, row):
    """How many places can stay, by all sets of places gone through."""
    pairs = [(1 << a) | (1 << b) for a, b in clash_pairs(tree, row)]
    return max(bin(places).count("1") for places in range(1 << len(tree))
               if not any(places & pair == pair for pair in pairs))


def right_plain(tree, row, kept, made, chains):
    """Whether a paper is as 10.2 tells, but that no more can stay is only shown by the chains."""
    pairs = set(clash_pairs(tree, row))
    many = len(tree)
    if not all(0 <= place < many for place in kept) or list(kept) != sorted(set(kept)):
        return False
    if len(made) != many or plain.tree(made) != tree or any(made[place] != row[place] for place in kept):
        return False
    if sorted(place for chain in chains for place in chain) != list(range(many)) or len(chains) != len(kept):
        return False
    return all(chain and all(link in pairs for link in zip(chain, chain[1:])) for chain in chains)


class Clashing(plain.Case):
    def test_by_hand(self):
        self.assertEqual(clashing((), ()), [])
        self.assertEqual(clashing((-1,), [5]), [])
        self.assertEqual(clashing((1, -1), (5, 5)), [(1, 0)])
        self.assertEqual(clashing((-1, 0), (5, 5)), [])
        self.assertEqual(clashing((-1, 0), (5, 4)), [(0, 1)])
        self.assertEqual(clashing((1, 2, -1), (5, 5, 5)), [(1, 0), (2, 0), (2, 1)])
        self.assertEqual(clashing((1, 2, -1), (7, 9, 5)), [(1, 0)])

    def test_as_the_words_say(self):
        for many in range(5):
            for tree in plain.all_trees(many):
                for row in plain.all_rows(many, 3):
                    self.assertEqual(clashing(tree, row), clash_pairs(tree, row))
        for tree, row in plain.trees_and_rows():
            told = clashing(tree, row)
            self.assertEqual(told, clash_pairs(tree, row))
            self.assertEqual(clashing(tree, list(row)), told)
            self.assertTrue(all(type(pair) is tuple for pair in told))

    def test_clashing_numbers_are_in_no_row(self):
        for tree in plain.all_trees(3):
            rows = [row for row in itertools.product(range(-2, 6), repeat=3) if plain.tree(row) == tree]
            for asked in plain.all_rows(3, 3):
                pairs = clashing(tree, asked)
                for a, b in itertools.permutations(range(3), 2):
                    both = any(row[a] == asked[a] and row[b] == asked[b] for row in rows)
                    self.assertEqual(both, (a, b) not in pairs and (b, a) not in pairs)

    def test_rows_of_the_tree_do_not_clash(self):
        for row in plain.some_rows():
            if len(row) <= 40:
                self.assertEqual(clashing(plain.tree(row), row), [])

    def test_all_clash(self):
        for many in (2, 7, 40):
            falling = tuple(range(1, many)) + (-1,)
            self.assertEqual(clashing(falling, (3,) * many), sorted((a, b) for a in range(many) for b in range(a)))

    def test_new_each_time(self):
        for tree, row in (((1, -1), (5, 5)), ((), ()), ((1, 2, -1), [5, 5, 5])):
            self.new_each_time(clashing, tree, row)

    def test_few_steps(self):
        for tree, row in plain.trees_and_rows()[::7]:
            self.few_steps(clashing, tree, row)


class MostStay(plain.Case):
    def as_told(self, tree, row):
        told = most_stay(tree, row)
        kept, made, chains = told
        self.assertIsInstance(told, tuple)
        self.assertIsInstance(kept, tuple)
        self.assertIsInstance(made, tuple)
        self.assertIsInstance(chains, list)
        self.assertTrue(all(type(chain) is tuple for chain in chains))
        self.assertTrue(right_plain(tree, row, kept, made, chains), (tree, row, told))
        self.assertEqual(most_stay(tree, list(row)), told)
        self.assertIs(stay_right(tree, row, kept, made, chains), True)
        self.assertIs(stay_right(tree, list(row), kept, list(made), tuple(chains)), True)
        return told

    def test_by_hand(self):
        self.assertEqual(most_stay((), ()), ((), (), []))
        self.assertEqual(most_stay((-1,), [-5]), ((0,), (-5,), [(0,)]))
        self.assertEqual(most_stay((1, -1), (7, 3))[:2], ((0, 1), (7, 3)))
        self.assertEqual(len(most_stay((1, -1), (3, 3))[0]), 1)
        self.assertEqual(most_stay((1, -1), (3, 3))[2], [(1, 0)])
        self.assertEqual(most_stay((1, -1, 1), (1, 5, 2))[0], (0, 2))
        self.assertEqual(most_stay((-1, 0, 1), (4, 9, 5))[0] in ((0, 1), (0, 2)), True)

    def test_all_sets_gone_through(self):
        for many in range(6):
            rows = list(plain.all_rows(many, 3))
            for at, tree in enumerate(plain.all_trees(many)):
                for row in rows if many < 5 else rows[at % 4::4]:
                    self.assertEqual(len(self.as_told(tree, row)[0]), most_plain(tree, row), (tree, row))

    def test_greater_sets_gone_through(self):
        source = random.Random(5)
        for at in range(60):
            many = 6 + at % 5
            tree = plain.tree([source.randint(0, many) for _ in range(many)])
            row = tuple(source.randint(0, (2, 4, 30)[at % 3]) for _ in range(many))
            self.assertEqual(len(self.as_told(tree, row)[0]), most_plain(tree, row), (tree, row))

    def test_all_rows_gone_through(self):
        for many in range(4):
            rows = list(itertools.product(range(-3, 6), repeat=many))
            for tree in plain.all_trees(many):
                mine = [row for row in rows if plain.tree(row) == tree]
                for row in plain.all_rows(many, 3):
                    most = max(sum(x == y for x, y in zip(row, made)) for made in mine)
                    self.assertEqual(len(self.as_told(tree, row)[0]), most)

    def test_up_to_forty(self):
        for tree, row in plain.trees_and_rows():
            self.as_told(tree, row)

    def test_nothing_clashes(self):
        for row in plain.some_rows():
            if len(row) <= 40:
                kept, made, chains = self.as_told(plain.tree(row), row)
                self.assertEqual((kept, made), (tuple(range(len(row))), row))
                self.assertEqual(sorted(chains), [(place,) for place in range(len(row))])

    def test_everything_clashes(self):
        for many in (1, 2, 7, 40):
            kept, made, chains = self.as_told(tuple(range(1, many)) + (-1,), (3,) * many)
            self.assertEqual((len(kept), chains), (1, [tuple(range(many))[::-1]]))
            kept, made, chains = self.as_told(tuple(range(-1, many - 1)), tuple(range(many, 0, -1)))
            self.assertEqual((len(kept), chains), (1, [tuple(range(many))]))

    def test_nothing_is_changed_and_lists_are_new(self):
        tree, row = (1, -1, 3, 1, 3), [0, 5, 2, 9, 1]
        kept, made, chains = most_stay(tree, row)
        stay_right(tree, row, kept, made, chains)
        self.assertEqual(row, [0, 5, 2, 9, 1])
        wanted = list(chains)
        chains.append("mark")
        self.assertEqual(most_stay(tree, row), (kept, made, wanted))

    def test_few_steps(self):
        for tree, row in plain.trees_and_rows()[::5]:
            self.few_steps(most_stay, tree, row)
            self.few_steps(stay_right, tree, row, *most_stay(tree, row))


class Refused(plain.Case):
    def all_refused(self, error, tree, row):
        self.refused(error, clashing, tree, row)
        self.refused(error, most_stay, tree, row)
        for kept, made, chains in (((), (), []), ((0,), row, [(0,)]), ((-1, 99), [0] * 50, [(), (10 ** 5000,)])):
            self.refused(error, stay_right, tree, row, kept, made, chains)

    def test_no_tree_ahead_of_unlike(self):
        for tree in plain.no_trees():
            for many in (0, len(tree), len(tree) + 1):
                self.all_refused(NoTree, tree, (0,) * many)

    def test_unlike(self):
        for tree in ((), (-1,), (1, -1), tuple(range(-1, 39))):
            for many in (0, 1, 2, 39, 40, 41, len(tree) + 1, max(len(tree) - 1, 0)):
                if many != len(tree):
                    self.all_refused(Unlike, tree, (0,) * many)
                    self.all_refused(Unlike, tree, [0] * many)


def wrong_kept(kept, many):
    """Kept places in a wrong form, or one more or fewer."""
    wrong = [kept[::-1], kept + kept[-1:], kept[:1] + kept, kept[:-1], kept[1:], kept + (many,), (-1,) + kept, ()]
    wrong += [kept + (10 ** 5000,), (-10 ** 5000,) + kept]
    for at, place in enumerate(kept):
        wrong.append(kept[:at] + (place - many,) + kept[at + 1:])
        wrong.append(kept[:at] + (place + 1,) + kept[at + 1:])
    for place in range(many):
        wrong.append(tuple(sorted(kept + (place,))))
    return wrong


def wrong_made(made):
    wrong = [made + (0,), made[:-1], made[1:], made[::-1], made + (0,) * 41, made + made, ()]
    wrong += [tuple(number + 1 for number in made), tuple(number - plain.BIG for number in made)]
    for place in range(0, len(made), 3):
        for more in (1, -1, plain.BIG, -10 ** 5000):
            wrong.append(made[:place] + (made[place] + more,) + made[place + 1:])
    return wrong


def wrong_chains(chains, many):
    """Chains parted, put together, with a place left out, twice or otherwise, out of order, empty ones."""
    wrong = [chains[1:], chains[:-1], chains + [()], [()] + chains, chains + chains[-1:], [], [()] * len(chains)]
    wrong += [chains + [(many,)], chains + [(-1,)], chains[::-1]]
    for at, chain in enumerate(chains):
        rest = chains[:at] + chains[at + 1:]
        others = [[()], [chain[::-1]], [chain[1:]], [chain[:-1]], [chain + chain[-1:]], [chain[:1] + chain]]
        others += [[chain, ()], [chain[:1], chain[1:]], [chain[:-1], chain[-1:]], [chain[-1:] + chain[:-1]]]
        others += [[chain[:-1] + (place,)] for place in (chain[-1] - many, many, -1, 10 ** 5000, -10 ** 5000)]
        wrong += [rest + other for other in others]
        if rest:
            wrong += [rest[1:] + [chain + rest[0]], rest[1:] + [rest[0] + chain], rest[1:] + [chain + rest[0], ()]]
            wrong.append(rest[1:] + [chain + rest[0][:1], rest[0][1:]])
    return wrong


class Judge(plain.Case):
    def right(self, answer, tree, row, kept, made, chains):
        self.assertIs(stay_right(tree, row, kept, made, chains), answer, (tree, row, kept, made, chains))

    def questions(self):
        small = [(tree, row) for many in range(4) for tree in plain.all_trees(many) for row in plain.all_rows(many, 3)]
        return small[::3] + [(tree, row) for tree, row in plain.trees_and_rows() if len(tree) < 9]

    def test_kept_otherwise(self):
        for tree, row in self.questions() + plain.trees_and_rows()[::19]:
            kept, made, chains = most_stay(tree, row)
            for other in wrong_kept(kept, len(tree)):
                self.right(right_plain(tree, row, other, made, chains), tree, row, other, made, chains)

    def test_made_otherwise(self):
        for tree, row in self.questions() + plain.trees_and_rows()[::19]:
            kept, made, chains = most_stay(tree, row)
            for other in wrong_made(made):
                good = right_plain(tree, row, kept, other, chains)
                self.right(good, tree, row, kept, other, chains)
                self.right(good, tree, row, kept, list(other), chains)

    def test_chains_otherwise(self):
        for tree, row in self.questions() + plain.trees_and_rows()[::29]:
            kept, made, chains = most_stay(tree, row)
            for other in wrong_chains(chains, len(tree)):
                good = right_plain(tree, row, kept, made, other)
                self.right(good, tree, row, kept, made, other)
                self.right(good, tree, row, kept, made, tuple(other))

    def test_all_small_papers(self):
        tree, row, made = (1, 2, -1), (6, 9, 5), (6, 5, 4)
        chainings = [list(chains) for many in range(4) for places in itertools.permutations(range(3))
                     for cuts in itertools.combinations_with_replacement(range(4), many)
                     for chains in [tuple(places[a:b] for a, b in zip((0,) + cuts, cuts + (3,)))]]
        kepts = [kept for many in range(4) for kept in itertools.product(range(-1, 4), repeat=many)]
        for kept, chains in itertools.product(kepts, chainings):
            for rebuilt in ((6, 5, 4), (9, 8, 5), (10, 9, 5), (6, 5, 5), (6, 9, 5)):
                good = right_plain(tree, row, kept, rebuilt, chains)
                self.right(good, tree, row, kept, rebuilt, chains)
        self.right(True, tree, row, (1, 2), (10, 9, 5), [(2,), (1, 0)])

    def test_one_more_than_can_stay(self):
        self.right(False, (1, -1), (3, 3), (0, 1), (3, 3), [(0,), (1,)])
        self.right(False, (1, -1), (3, 3), (0, 1), (3, 2), [(0,), (1,)])
        self.right(False, (1, -1), (3, 3), (0,), (3, 2), [(0, 1)])
        self.right(True, (1, -1), (3, 3), (0,), (3, 2), [(1, 0)])
        self.right(True, (1, -1), (3, 3), (1,), [4, 3], [(1, 0)])

    def test_fewer_than_can_stay(self):
        self.right(False, (1, -1), (4, 3), (0,), (4, 3), [(0,)])
        self.right(False, (1, -1), (4, 3), (0,), (4, 3), [(1, 0)])
        self.right(False, (1, -1), (4, 3), (0,), (4, 3), [(0,), (1,)])
        self.right(True, (1, -1), (4, 3), (0, 1), (4, 3), [(1,), (0,)])

    def test_made_of_any_length(self):
        for many in (0, 1, 3, 39, 40, 41, 82, 1000):
            for made in ((0,) * many, [0] * many, tuple(range(many))):
                self.right(False, (1, -1), (4, 3), (0, 1), made, [(0,), (1,)])

    def test_where_a_tuple_is_told_a_list_is_none(self):
        self.right(False, (1, -1), (4, 3), [0, 1], (4, 3), [(0,), (1,)])
        self.right(False, (1, -1), (4, 3), (0, 1), (4, 3), [[0], (1,)])
        self.right(True, (1, -1), [4, 3], (0, 1), [4, 3], ((0,), (1,)))


if __name__ == "__main__":
    unittest.main()
