"""Points 17 and 18: two woods beside each other."""

import copy
import itertools
import random
import unittest

from samples import (
    BICYCLE, FIFTY, LONE, NINE, NINE_BOUGHS, changed, check_refused, grown, is_right_tree, keeping, sets_in, set_of,
    some_woods, ties_of, wares_at,
)
from optionwood.beside import compared, shows_within, within
from optionwood.cases import cases
from optionwood.errors import Unlike
from optionwood.woods import wood_of

KEPT = ("kept",)
TWO_FREE = [(0, 0, 2, (1, 2))]
FREE = wood_of(3, TWO_FREE, [])
NEEDS = wood_of(3, TWO_FREE, [("needs", 2, 1)])
BANS = wood_of(3, TWO_FREE, [("bans", 2, 1)])
BOTH = wood_of(3, [(0, 2, 2, (1, 2))], [])
VOID = wood_of(3, [(0, 2, 2, (1, 2))], [("bans", 1, 2)])
WARELESS = wood_of(3, TWO_FREE, [("most", -1, ((0, 0),))])
FAR_NUMBERS = (-1, -2, -3, 3, 4, 9, 10 ** 59, -10 ** 59)


def is_kept_by_all(other, yes, no):
    return keeping(other, range(len(ties_of(other))), yes, no) == sets_in(other[0], yes, no)


def tree_within(one, other, pick=min, step=1):
    def leaf_at(wood, yes, no):
        return KEPT if is_kept_by_all(other, yes, no) else None

    return grown(one, range(len(ties_of(one)))[::step], 1, 0, pick, leaf_at)


def is_tree_within(one, other, tree):
    def is_leaf(wood, leaf, yes, no):
        return leaf == KEPT and is_kept_by_all(other, yes, no)

    return is_right_tree(one, 1, 0, tree, is_leaf)


def only_of(one, other):
    return [ware for ware in wares_at(one, 1, 0) if ware not in wares_at(other, 1, 0)]


def within_by_the_words(one, other):
    outside = only_of(one, other)
    return ("out", outside[0]) if outside else ("in", tree_within(one, other))


def compared_by_the_words(one, other):
    mine = only_of(one, other)
    theirs = only_of(other, one)
    if mine and theirs:
        return ("neither", mine[0], theirs[0])
    if mine:
        return ("fewer", tree_within(other, one), mine[0])
    if theirs:
        return ("more", tree_within(one, other), theirs[0])
    return ("same", tree_within(one, other), tree_within(other, one))


def with_other_ties(chance, wood):
    """A wood of as many options that sells somewhat more or fewer."""
    boughs = list(wood[1])
    if boughs and chance.randrange(2):
        up, low, high, kids = boughs.pop()
        boughs.append((up, chance.randint(0, low), chance.randint(high, len(kids)), kids))
    cross = [tie for tie in wood[2] if chance.randrange(4)]
    if wood[0] > 1 and chance.randrange(2):
        cross.append((chance.choice(("needs", "bans")),) + tuple(chance.sample(range(wood[0]), 2)))
    chance.shuffle(cross)
    return wood_of(wood[0], boughs, cross[:8])


def some_pairs(seed, how_many, most_options, most_cross=4):
    chance = random.Random(seed)
    for wood in some_woods(seed, how_many, most_options, most_cross):
        yield wood, with_other_ties(chance, wood)
    for one, other in zip(some_woods(seed + 1, 60, most_options, 2), some_woods(seed + 2, 60, most_options, 2)):
        yield one, other


class UnlikeTest(unittest.TestCase):
    def test_unlike_numbers_of_options(self):
        woods = (LONE, FREE, VOID, BICYCLE, NINE)
        for one, other in itertools.product(woods, woods):
            if one[0] != other[0]:
                check_refused(self, Unlike, within, one, other)
                check_refused(self, Unlike, compared, one, other)
                for tree in (KEPT, ("broken", 0), ("split", 1, KEPT, KEPT), ("split", 99, KEPT, KEPT)):
                    check_refused(self, Unlike, shows_within, one, other, tree)

    def test_as_many_options_are_not_refused(self):
        for wood in (LONE, FREE, VOID, BICYCLE, NINE):
            within(wood, wood)
            compared(wood, wood)
            shows_within(wood, wood, KEPT)


class WithinTest(unittest.TestCase):
    def test_in(self):
        self.assertEqual(within(NEEDS, FREE), ("in", KEPT))
        tree = ("split", 1, KEPT, ("split", 2, ("broken", 1), KEPT))
        self.assertEqual(within(NEEDS, NEEDS), ("in", tree))
        self.assertEqual(within(BOTH, NEEDS), ("in", ("split", 1, KEPT, ("broken", 0))))

    def test_out_with_the_first_ware(self):
        self.assertEqual(within(FREE, NEEDS), ("out", set_of(0, 2)))
        self.assertEqual(within(FREE, BOTH), ("out", 1))
        self.assertEqual(within(NEEDS, BANS), ("out", set_of(0, 1, 2)))
        self.assertEqual(within(BANS, NEEDS), ("out", set_of(0, 2)))

    def test_broken_ahead_of_kept_and_kept_ahead_of_a_split(self):
        self.assertEqual(within(WARELESS, FREE), ("in", ("broken", 1)))
        one = wood_of(3, TWO_FREE, [("bans", 0, 1), ("bans", 0, 1), ("bans", 0, 2)])
        other = wood_of(3, TWO_FREE, [("bans", 0, 1)])
        self.assertEqual(within(one, other), ("in", ("split", 1, ("broken", 1), KEPT)))

    def test_void_woods(self):
        tree = ("split", 1, ("split", 2, ("broken", 1), ("broken", 0)), ("broken", 0))
        for other in (FREE, NEEDS, BOTH, VOID, WARELESS):
            self.assertEqual(within(VOID, other)[0], "in")
            self.assertIs(shows_within(VOID, other, tree), True)
            self.assertEqual(within(WARELESS, other), ("in", ("broken", 1)))
        self.assertEqual(within(VOID, WARELESS), ("in", tree))
        self.assertEqual(
            within(VOID, BANS), ("in", ("split", 1, ("split", 2, ("broken", 1), ("broken", 0)), ("broken", 0))),
        )
        for one, ware in ((FREE, 1), (NEEDS, 1), (BOTH, 7)):
            self.assertEqual(within(one, VOID), ("out", ware))
            self.assertEqual(within(one, WARELESS), ("out", ware))

    def test_one_option(self):
        void = wood_of(1, [], [("most", -1, ((0, 0),))])
        same = wood_of(1, [], [("most", FIFTY, ((0, FIFTY),))])
        self.assertEqual(within(LONE, same), ("in", KEPT))
        self.assertEqual(within(LONE, void), ("out", 1))
        self.assertEqual(within(void, LONE), ("in", ("broken", 0)))

    def test_woods_against_the_words(self):
        met = {"in": 0, "out": 0}
        for pair in some_pairs(71, 150, 5):
            for one, other in (pair, pair[::-1], pair[:1] * 2):
                told = within(one, other)
                self.assertEqual(told, within_by_the_words(one, other), (one, other))
                self.assertIs(type(told), tuple)
                met[told[0]] += 1
                if told[0] == "in":
                    self.assertIs(shows_within(one, other, told[1]), True)
        self.assertGreater(min(met.values()), 60, met)

    def test_nine_options(self):
        banned = wood_of(9, NINE_BOUGHS, [("bans", 5, 2), ("needs", 8, 3)])
        for one, other in itertools.product((NINE, banned), repeat=2):
            self.assertEqual(within(one, other), within_by_the_words(one, other))


class ShowsWithinTest(unittest.TestCase):
    def check(self, right, tree, one=NEEDS, other=NEEDS):
        self.assertIs(shows_within(one, other, tree), right, tree)

    def test_told_trees_and_splits_in_another_order(self):
        self.check(True, ("split", 1, KEPT, ("split", 2, ("broken", 1), KEPT)))
        self.check(True, ("split", 2, ("split", 1, KEPT, ("broken", 1)), KEPT))
        self.check(True, ("split", 1, ("split", 2, KEPT, KEPT), ("split", 2, ("broken", 1), KEPT)))

    def test_kept_where_a_tie_of_the_other_is_not(self):
        self.check(False, KEPT)
        self.check(False, ("split", 1, KEPT, KEPT))
        self.check(False, ("split", 2, KEPT, KEPT))
        self.check(False, ("split", 1, KEPT, ("split", 2, KEPT, KEPT)))
        self.check(True, KEPT, NEEDS, FREE)
        self.check(False, KEPT, FREE, NEEDS)

    def test_branches_that_are_exchanged(self):
        self.check(False, ("split", 1, ("split", 2, ("broken", 1), KEPT), KEPT))
        self.check(False, ("split", 1, KEPT, ("split", 2, KEPT, ("broken", 1))))
        self.check(False, ("split", 2, KEPT, ("split", 1, KEPT, ("broken", 1))))

    def test_split_on_what_is_not_open_or_no_option(self):
        self.check(True, ("split", 1, KEPT, KEPT), NEEDS, FREE)
        for k in (0,) + FAR_NUMBERS:
            self.check(False, ("split", k, KEPT, KEPT), NEEDS, FREE)
            self.check(False, ("split", 2, KEPT, ("split", k, KEPT, KEPT)), NEEDS, FREE)
            self.check(False, ("split", 2, ("split", k, KEPT, KEPT), KEPT), NEEDS, FREE)
        self.check(False, ("split", 1, ("split", 1, KEPT, KEPT), KEPT), NEEDS, FREE)
        self.check(False, ("split", 1, KEPT, ("split", 1, KEPT, KEPT)), NEEDS, FREE)

    def test_tie_that_is_not_broken_for_sure_or_none(self):
        for t in (0, 1) + FAR_NUMBERS:
            self.check(False, ("broken", t), NEEDS, FREE)
            tree = ("split", 1, KEPT, ("split", 2, ("broken", t), KEPT))
            self.check(t == 1, tree)
            self.check(False, ("split", 1, KEPT, ("split", 2, KEPT, ("broken", t))))

    def test_broken_ties_are_those_of_the_one(self):
        one = wood_of(3, [(0, 0, 1, (1,)), (0, 0, 1, (2,))], [("bans", 0, 1)])
        other = wood_of(3, TWO_FREE, [("bans", 0, 1)])
        self.check(True, ("split", 1, ("broken", 2), KEPT), one, other)
        self.check(False, ("split", 1, ("broken", 1), KEPT), one, other)
        self.check(True, ("split", 1, ("broken", 1), KEPT), other, one)
        self.check(False, ("split", 1, ("broken", 2), KEPT), other, one)

    def test_any_broken_tie_of_the_one(self):
        one = wood_of(3, TWO_FREE, [("bans", 0, 1), ("most", 0, ((1, 1),))])
        for t in (1, 2):
            self.check(True, ("split", 1, ("broken", t), KEPT), one, one)

    def test_trees_of_cases_show_it_where_every_leaf_is_broken(self):
        for other in (FREE, BOTH, VOID, WARELESS):
            self.check(True, cases(VOID, 1, 0), VOID, other)
            self.check(True, cases(WARELESS, 1, 0), WARELESS, other)

    def test_wares_at_leaves_show_nothing(self):
        self.check(False, ("ware",), LONE, LONE)
        self.check(False, cases(NEEDS, 1, 0), NEEDS, FREE)

    def test_deep_trees(self):
        tree = KEPT
        for depth in range(20):
            tree = ("split", 1 + depth % 2, tree, KEPT)
        self.check(False, tree, NEEDS, FREE)

    def test_trees_in_any_order(self):
        chance = random.Random(72)
        seen = 0
        for one, other in some_pairs(73, 120, 5):
            if not only_of(one, other):
                seen += 1
                for pick in (max, chance.choice):
                    self.check(True, tree_within(one, other, pick, -1), one, other)
        self.assertGreater(seen, 60)

    def test_trees_with_one_thing_changed(self):
        chance = random.Random(74)
        met = {True: 0, False: 0}
        for one, other in some_pairs(75, 120, 4):
            if not only_of(one, other):
                for trial in range(15):
                    tree = changed(chance, tree_within(one, other, chance.choice), (KEPT,))
                    right = is_tree_within(one, other, tree)
                    met[right] += 1
                    self.check(right, tree, one, other)
        self.assertGreater(min(met.values()), 100, met)

    def test_nothing_shows_that_a_wood_is_within_one_that_sells_less(self):
        for pair in some_pairs(76, 100, 4):
            for one, other in (pair, pair[::-1]):
                if only_of(one, other):
                    for tree in (tree_within(one, one), tree_within(other, other), KEPT, cases(one, 1, 0)):
                        self.check(False, tree, one, other)


class ComparedTest(unittest.TestCase):
    def test_same(self):
        tree = ("split", 1, KEPT, ("split", 2, ("broken", 1), KEPT))
        otherwise = wood_of(3, TWO_FREE, [("most", 0, ((1, -1), (2, 1)))])
        self.assertEqual(compared(NEEDS, NEEDS), ("same", tree, tree))
        self.assertEqual(compared(NEEDS, otherwise), ("same", tree, tree))
        one = wood_of(3, [(0, 2, 2, (1, 2))], [])
        other = wood_of(3, TWO_FREE, [("needs", 0, 2), ("needs", 2, 1)])
        there = ("split", 1, ("split", 2, KEPT, ("broken", 0)), ("broken", 0))
        back = ("split", 1, ("split", 2, KEPT, ("broken", 1)), ("split", 2, ("broken", 2), ("broken", 1)))
        self.assertEqual(compared(one, other), ("same", there, back))
        self.assertEqual(compared(other, one), ("same", back, there))

    def test_more_and_fewer(self):
        self.assertEqual(compared(NEEDS, FREE), ("more", KEPT, set_of(0, 2)))
        self.assertEqual(compared(FREE, NEEDS), ("fewer", KEPT, set_of(0, 2)))
        tree = ("split", 1, KEPT, ("broken", 0))
        self.assertEqual(compared(BOTH, NEEDS), ("more", tree, 1))
        self.assertEqual(compared(NEEDS, BOTH), ("fewer", tree, 1))

    def test_neither(self):
        self.assertEqual(compared(NEEDS, BANS), ("neither", set_of(0, 1, 2), set_of(0, 2)))
        self.assertEqual(compared(BANS, NEEDS), ("neither", set_of(0, 2), set_of(0, 1, 2)))

    def test_void(self):
        self.assertEqual(compared(WARELESS, BOTH), ("more", ("broken", 1), 7))
        self.assertEqual(compared(BOTH, WARELESS), ("fewer", ("broken", 1), 7))
        self.assertEqual(compared(WARELESS, WARELESS), ("same", ("broken", 1), ("broken", 1)))

    def test_woods_against_the_words(self):
        met = {"same": 0, "more": 0, "fewer": 0, "neither": 0}
        for pair in some_pairs(77, 200, 5):
            for one, other in (pair, pair[::-1]):
                told = compared(one, other)
                self.assertEqual(told, compared_by_the_words(one, other), (one, other))
                self.assertIs(type(told), tuple)
                met[told[0]] += 1
        self.assertGreater(min(met.values()), 20, met)

    def test_asking_changes_no_wood(self):
        woods = (FREE, NEEDS, BANS, BOTH, VOID, WARELESS)
        given = copy.deepcopy(woods)
        for one, other in itertools.product(woods, woods):
            first = compared(one, other)
            self.assertEqual(compared(one, other), first)
            shows_within(one, other, KEPT)
        self.assertEqual(woods, given)


if __name__ == "__main__":
    unittest.main()
