"""Points 8 and 9: trees of cases, told and looked at, and the wares at their leaves."""

import random
import unittest

from samples import (
    BICYCLE, LONE, NINE, changed, grown, is_right_tree, set_of, some_woods, stands_with_root, ties_of, wares_at,
)
from optionwood.cases import are_cases, cases, wares_in
from optionwood.woods import wood_of

WARE = ("ware",)
BICYCLE_TREE = (
    "split", 1,
    (
        "split", 2,
        ("split", 3, ("broken", 1), ("split", 4, WARE, WARE)),
        ("split", 3, ("split", 4, ("broken", 3), WARE), ("broken", 1)),
    ),
    ("broken", 0),
)
# The same wood, split from the last option on, and with a leaf of another tie that is broken, too.
BICYCLE_OTHERWISE = (
    "split", 4,
    (
        "split", 2,
        ("split", 1, ("split", 3, ("broken", 1), WARE), ("broken", 1)),
        ("broken", 3),
    ),
    (
        "split", 3,
        ("split", 2, ("broken", 1), ("split", 1, WARE, ("broken", 1))),
        ("split", 2, ("split", 1, WARE, ("broken", 1)), ("split", 1, ("broken", 1), ("broken", 0))),
    ),
)
FAR_NUMBERS = (-1, -2, -10, 5, 9, 20, 64, -10 ** 59, 10 ** 59)


class ToldTest(unittest.TestCase):
    def test_bicycle(self):
        self.assertEqual(cases(BICYCLE, 1, 0), BICYCLE_TREE)

    def test_bicycle_from_other_stands(self):
        self.assertEqual(cases(BICYCLE, set_of(0, 1), 0), BICYCLE_TREE[2])
        self.assertEqual(cases(BICYCLE, set_of(0, 4), set_of(2)), ("broken", 3))
        self.assertEqual(cases(BICYCLE, set_of(0, 2, 3), set_of(1)), ("broken", 0))
        self.assertEqual(cases(BICYCLE, set_of(0, 1, 2), set_of(3, 4)), WARE)
        self.assertEqual(cases(BICYCLE, set_of(0, 1, 3, 4), set_of(2)), ("broken", 3))

    def test_one_option_alone(self):
        self.assertEqual(cases(LONE, 1, 0), WARE)
        self.assertEqual(cases(wood_of(1, [], [("most", 0, ((0, 0),))]), 1, 0), WARE)
        self.assertEqual(cases(wood_of(1, [], [("most", -1, ((0, 0),))]), 1, 0), ("broken", 0))

    def test_the_first_tie_that_is_broken_for_sure(self):
        cross = [("bans", 0, 1), ("most", 1, ((0, 1), (1, 1))), ("most", -1, ((2, 5),))]
        wood = wood_of(3, [(0, 1, 2, (1, 2))], cross)
        self.assertEqual(cases(wood, 1, 0), ("broken", 3))
        self.assertEqual(cases(wood, set_of(0, 1), 0), ("broken", 1))
        self.assertEqual(cases(wood, 1, set_of(1, 2)), ("broken", 0))

    def test_no_split_where_a_tie_is_broken_and_none_where_nothing_is_open(self):
        wood = wood_of(3, [(0, 0, 2, (1, 2))], [])
        leaves = ("split", 1, ("split", 2, WARE, WARE), ("split", 2, WARE, WARE))
        self.assertEqual(cases(wood, 1, 0), leaves)
        self.assertEqual(cases(wood, 1, set_of(1)), ("split", 2, WARE, WARE))
        self.assertEqual(cases(wood, set_of(0, 2), 0), ("split", 1, WARE, WARE))

    def test_every_stand_against_the_words(self):
        for wood in some_woods(11, 40, 5):
            for yes, no in stands_with_root(wood[0]):
                told = cases(wood, yes, no)
                self.assertEqual(told, grown(wood, range(len(ties_of(wood))), yes, no), (wood, yes, no))
                self.assertIs(type(told), tuple)
                self.assertIs(are_cases(wood, yes, no, told), True)

    def test_nine_options(self):
        for wood in (NINE, wood_of(9, list(NINE[1]), [("bans", 5, 2), ("needs", 8, 3)])):
            self.assertEqual(cases(wood, 1, 0), grown(wood, range(len(ties_of(wood))), 1, 0))
            self.assertIs(are_cases(wood, 1, 0, cases(wood, 1, 0)), True)


class LookedAtTest(unittest.TestCase):
    def check(self, right, tree, yes=1, no=0, wood=BICYCLE):
        self.assertIs(are_cases(wood, yes, no, tree), right, tree)

    def test_told_tree(self):
        self.check(True, BICYCLE_TREE)
        self.check(True, BICYCLE_TREE[2], set_of(0, 1))
        self.check(True, BICYCLE_TREE[3], 1, set_of(1))

    def test_splits_in_another_order_and_other_broken_ties(self):
        self.check(True, BICYCLE_OTHERWISE)
        tree = ("split", 2, ("broken", 0), ("broken", 1))
        self.check(False, tree, 1, set_of(1))
        self.check(True, ("split", 2, ("broken", 0), ("broken", 0)), 1, set_of(1))
        self.check(True, ("split", 2, ("broken", 1), ("split", 3, ("broken", 1), ("broken", 0))), 1, set_of(1))

    def test_tree_of_another_stand(self):
        self.check(False, BICYCLE_TREE[2])
        self.check(False, BICYCLE_TREE, set_of(0, 1))
        self.check(False, BICYCLE_TREE[3])
        self.check(False, BICYCLE_TREE[2][2], set_of(0, 1))

    def test_sides_that_are_changed_round(self):
        self.check(False, BICYCLE_TREE[:2] + (BICYCLE_TREE[3], BICYCLE_TREE[2]))

    def test_split_on_what_is_not_open(self):
        broken = ("broken", 0)
        self.check(False, ("split", 1, broken, broken), 1, set_of(1))
        self.check(False, ("split", 0, broken, broken), 1, set_of(1))
        self.check(False, ("split", 4, broken, broken), set_of(0, 4), set_of(1))
        self.check(True, ("split", 3, broken, broken), set_of(0, 4), set_of(1))
        self.check(False, ("split", 3, ("split", 3, broken, broken), broken), 1, set_of(1))
        self.check(False, ("split", 3, broken, ("split", 3, broken, broken)), 1, set_of(1))

    def test_split_on_no_option(self):
        for k in FAR_NUMBERS:
            self.check(False, ("split", k, ("broken", 0), ("broken", 0)), 1, set_of(1))
            self.check(False, ("split", k, WARE, WARE), set_of(0, 1, 2), set_of(3, 4))
            self.check(False, ("split", 2, ("broken", 0), ("split", k, WARE, WARE)), 1, set_of(1))

    def test_broken_leaf_of_a_tie_that_is_not(self):
        self.check(True, ("broken", 0), 1, set_of(1))
        for t in (1, 2, 3, 4):
            self.check(False, ("broken", t), 1, set_of(1))
        for t in range(5):
            self.check(False, ("broken", t))
            self.check(False, ("broken", t), set_of(0, 1, 2), set_of(3, 4))

    def test_broken_leaf_of_no_tie(self):
        wood = wood_of(1, [], [("most", -1, ((0, 0),))])
        self.check(True, ("broken", 0), wood=wood)
        for t in FAR_NUMBERS + (1, 2):
            self.check(False, ("broken", t), wood=wood)
            self.check(False, ("broken", t), wood=LONE)
        for t in FAR_NUMBERS:
            self.check(False, ("broken", t), 1, set_of(1))
            self.check(False, ("split", 2, ("broken", 0), ("broken", t)), 1, set_of(1))

    def test_every_tie_broken_and_numbers_below_0(self):
        wood = wood_of(2, [(0, 1, 1, (1,))], [("needs", 0, 1), ("bans", 1, 0)])
        for t in range(-4, 7):
            self.check(t in (0, 1), ("broken", t), 1, 2, wood)
            self.check(t == 2, ("broken", t), 3, 0, wood)

    def test_ware_leaf_where_an_option_is_open(self):
        self.check(True, WARE, set_of(0, 1, 2), set_of(3, 4))
        self.check(False, WARE, set_of(0, 1, 2), set_of(3))
        self.check(False, WARE, set_of(0, 1, 2), set_of(4))
        self.check(False, WARE)
        self.check(False, WARE, wood=wood_of(2, [(0, 0, 1, (1,))], []))

    def test_ware_leaf_where_a_tie_is_broken(self):
        self.check(False, WARE, set_of(0, 1, 3, 4), set_of(2))
        self.check(False, WARE, set_of(0, 1), set_of(2, 3, 4))
        self.check(False, WARE, set_of(0), set_of(1, 2, 3, 4))
        self.check(False, WARE, wood=wood_of(1, [], [("most", -1, ((0, 0),))]))

    def test_fault_far_down_on_either_side(self):
        wood = wood_of(4, [(0, 0, 3, (1, 2, 3))], [])
        bad = ("broken", 0)
        for path in range(8):
            tree = bad
            for k in (3, 2, 1):
                rest = full_tree(k + 1)
                tree = ("split", k, tree, rest) if path >> (k - 1) & 1 else ("split", k, rest, tree)
            self.check(False, tree, wood=wood)
        self.check(True, full_tree(1), wood=wood)

    def test_deep_trees(self):
        for k in (0, 1, 4, 7, -1):
            tree = WARE
            for depth in range(20):
                tree = ("split", k, tree, WARE)
            self.check(False, tree)
            self.check(False, tree, set_of(0, 1, 2), set_of(3, 4))

    def test_trees_in_any_order_show_the_wares(self):
        chance = random.Random(12)
        for wood in some_woods(12, 40, 5):
            for yes, no in chance.sample(stands_with_root(wood[0]), min(9, 3 ** (wood[0] - 1))):
                for pick in (max, chance.choice):
                    tree = grown(wood, range(len(ties_of(wood)))[::-1], yes, no, pick)
                    self.check(True, tree, yes, no, wood)
                    self.assertEqual(sorted(wares_in(yes, tree)), wares_at(wood, yes, no))

    def test_trees_with_one_thing_changed(self):
        chance = random.Random(13)
        met = {True: 0, False: 0}
        for wood in some_woods(13, 60, 4):
            told = grown(wood, range(len(ties_of(wood))), 1, 0, chance.choice)
            for trial in range(25):
                tree = changed(chance, told, (WARE,))
                right = is_right_tree(wood, 1, 0, tree)
                met[right] += 1
                self.check(right, tree, 1, 0, wood)
        self.assertGreater(min(met.values()), 50)


def full_tree(k):
    if k > 3:
        return WARE
    return ("split", k, full_tree(k + 1), full_tree(k + 1))


class WaresInTest(unittest.TestCase):
    def test_from_the_left(self):
        self.assertEqual(wares_in(1, BICYCLE_TREE), [set_of(0, 1, 2, 4), set_of(0, 1, 2), set_of(0, 1, 3)])
        self.assertEqual(wares_in(1, BICYCLE_OTHERWISE), [set_of(0, 1, 2, 4), set_of(0, 1, 3), set_of(0, 1, 2)])

    def test_one_ahead_of_other(self):
        wood = wood_of(3, [(0, 0, 2, (1, 2))], [])
        self.assertEqual(wares_in(1, cases(wood, 1, 0)), [7, 3, 5, 1])
        tree = ("split", 2, ("split", 1, WARE, WARE), ("split", 1, WARE, WARE))
        self.assertEqual(wares_in(1, tree), [7, 5, 3, 1])

    def test_leaves_alone(self):
        self.assertEqual(wares_in(1, WARE), [1])
        self.assertEqual(wares_in(set_of(0, 1, 2), WARE), [7])
        self.assertEqual(wares_in(1, ("broken", 0)), [])
        self.assertEqual(wares_in(1, ("split", 1, ("broken", 0), ("broken", 1))), [])

    def test_from_the_stand_at_the_top(self):
        self.assertEqual(wares_in(set_of(0, 1), BICYCLE_TREE[2]), [set_of(0, 1, 2, 4), 7, 11])
        self.assertEqual(wares_in(set_of(0, 1), BICYCLE_TREE[2][3]), [11])

    def test_told_trees_show_the_wares(self):
        for wood in some_woods(14, 40, 5):
            for yes, no in stands_with_root(wood[0]):
                told = wares_in(yes, cases(wood, yes, no))
                self.assertIs(type(told), list)
                self.assertEqual(sorted(told), wares_at(wood, yes, no))

    def test_told_list_is_the_askers_own(self):
        for tree in (BICYCLE_TREE, WARE, ("broken", 0)):
            told = wares_in(1, tree)
            right = list(told)
            again = wares_in(1, tree)
            self.assertIsNot(told, again)
            told.append(99)
            told[0] = 98
            self.assertEqual(again, right)
            self.assertEqual(wares_in(1, tree), right)


if __name__ == "__main__":
    unittest.main()
