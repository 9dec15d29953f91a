"""Points 11 to 13: ties that bar a stand, least bars, and the standing of options."""

import copy
import itertools
import random
import unittest

from samples import (
    BICYCLE, FIFTY, LONE, NINE, bar_of, keeping, set_of, some_woods, stands_with_root, ties_of, wares_at,
)
from optionwood.cases import cases
from optionwood.standing import bars, least_bar, standing
from optionwood.ties import keeps
from optionwood.woods import many_ties, tie_at, wood_of

# 1 never comes, by ties 1 and 2 alone; 2 may come.
NEVER = wood_of(3, [(0, 0, 2, (1, 2))], [("needs", 1, 2), ("bans", 2, 1)])
NEVER_BAR = ([1, 2], ("split", 2, ("broken", 2), ("broken", 1)), [(1, 3), (2, 7)])
# Void, whichever of the two bans that are alike is left out.
VOID = wood_of(2, [(0, 1, 1, (1,))], [("bans", 0, 1), ("bans", 0, 1)])
VOID_BAR = ([0, 2], ("split", 1, ("broken", 2), ("broken", 0)), [(0, 1), (2, 3)])


class BarsTest(unittest.TestCase):
    def test_no_ties_bar_nothing(self):
        for wood in (BICYCLE, LONE, NINE, NEVER, VOID):
            self.assertIs(bars(wood, [], 1, 0), False)
            self.assertIs(bars(wood, [], 2 ** wood[0] - 1, 0), False)
            self.assertIs(bars(wood, [], 1, 2 ** wood[0] - 2), False)

    def test_by_hand(self):
        stand = (set_of(0, 1), 0)
        for ties in ([1, 2], [2, 1], [0, 1, 2], [2, 0, 1], [1, 2, 1], [2, 2, 1, 1, 0]):
            self.assertIs(bars(NEVER, ties, *stand), True)
            self.assertIs(bars(NEVER, ties, 1, 0), False)
        for ties in ([], [0], [1], [2], [0, 1], [2, 0], [1, 1], [2, 2, 2, 0]):
            self.assertIs(bars(NEVER, ties, *stand), False)

    def test_numbers_are_those_of_the_wood(self):
        self.assertIs(bars(BICYCLE, [0], 1, set_of(1)), True)
        self.assertIs(bars(BICYCLE, [1, 2, 3, 4], 1, set_of(1)), False)
        self.assertIs(bars(BICYCLE, [3], set_of(0, 4), set_of(2)), True)
        self.assertIs(bars(BICYCLE, [4, 2, 1, 0], set_of(0, 4), set_of(2)), False)

    def test_every_list_of_ties_against_the_words(self):
        chance = random.Random(31)
        met = set()
        for wood in some_woods(31, 40, 5):
            for trial in range(20):
                ties = [chance.randrange(many_ties(wood)) for t in range(chance.randint(0, 12)) if many_ties(wood)]
                yes, no = chance.choice(stands_with_root(wood[0]))
                right = keeping(wood, ties, yes, no) == []
                met.add(right)
                self.assertIs(bars(wood, ties, yes, no), right, (wood, ties, yes, no))
        self.assertEqual(met, {True, False})

    def test_list_that_is_handed_in_stays(self):
        for ties in ([2, 1, 1], [2, 0], [], [1, 2]):
            given = list(ties)
            first = bars(NEVER, given, 3, 0)
            self.assertEqual(given, ties)
            given.clear()
            self.assertIs(bars(NEVER, ties, 3, 0), first)


class LeastBarTest(unittest.TestCase):
    def test_by_hand(self):
        self.assertEqual(least_bar(NEVER, 3, 0), NEVER_BAR)
        self.assertEqual(least_bar(VOID, 1, 0), VOID_BAR)
        self.assertEqual(least_bar(BICYCLE, 1, 2), ([0], ("broken", 0), [(0, 1)]))

    def test_none_where_the_ties_do_not_bar(self):
        for wood in (BICYCLE, LONE, NINE, NEVER):
            self.assertIsNone(least_bar(wood, 1, 0))
        self.assertIsNone(least_bar(NEVER, set_of(0, 2), set_of(1)))
        self.assertIsNone(least_bar(BICYCLE, set_of(0, 1, 2, 4), set_of(3)))

    def test_earlier_ties_are_left_out_first(self):
        wood = wood_of(2, [(0, 0, 1, (1,))], [("bans", 0, 1)] * 4)
        self.assertEqual(least_bar(wood, 3, 0), ([4], ("broken", 4), [(4, 3)]))
        wood = wood_of(3, [(0, 0, 2, (1, 2))], [("bans", 0, 1), ("needs", 1, 2), ("bans", 1, 2)])
        self.assertEqual(least_bar(wood, 3, 0), ([2, 3], ("split", 2, ("broken", 3), ("broken", 2)), [(2, 3), (3, 7)]))
        wood = wood_of(3, [(0, 0, 2, (1, 2))], [("needs", 1, 2), ("bans", 1, 2), ("bans", 0, 1)])
        self.assertEqual(least_bar(wood, 3, 0), ([3], ("broken", 3), [(3, 3)]))

    def test_tree_is_told_by_the_ties_left_alone(self):
        # Tie 0 would be broken first at the top, but the last tie bars the stand as well, and stays.
        wood = wood_of(2, [(0, 1, 1, (1,))], [("needs", 0, 1)])
        self.assertEqual(least_bar(wood, 1, 2), ([1], ("broken", 1), [(1, 1)]))
        self.assertEqual(cases(wood, 1, 2), ("broken", 0))

    def test_one_tie_of_one_option(self):
        wood = wood_of(1, [], [("most", -FIFTY, ((0, 1 - FIFTY),))])
        self.assertEqual(least_bar(wood, 1, 0), ([0], ("broken", 0), [(0, 1)]))

    def test_every_stand_against_the_words(self):
        barred = 0
        for wood in some_woods(32, 40, 4):
            for yes, no in stands_with_root(wood[0]):
                told = least_bar(wood, yes, no)
                self.assertEqual(told, bar_of(wood, yes, no), (wood, yes, no))
                if told is not None:
                    barred += 1
                    self.check_bar(wood, yes, no, told)
        self.assertGreater(barred, 100)

    def check_bar(self, wood, yes, no, told):
        ties, tree, others = told
        self.assertEqual([type(part) for part in (told, ties, tree, others)], [tuple, list, tuple, list])
        self.assertEqual(ties, sorted(set(ties)))
        self.assertEqual([t for t, some in others], ties)
        self.assertNotIn("ware", str(tree))
        for t, some in others:
            self.assertEqual((some & yes, some & no), (yes, 0))
            self.assertEqual([u for u in ties if not keeps(tie_at(wood, u), some)], [t])

    def test_nine_options_and_many_ties(self):
        met = 0
        for wood in some_woods(33, 54, 9):
            if wood[0] == 9:
                for k in range(1, 9):
                    self.assertEqual(least_bar(wood, 1 | 2 ** k, 0), bar_of(wood, 1 | 2 ** k, 0))
                    self.assertEqual(least_bar(wood, 1, 2 ** k), bar_of(wood, 1, 2 ** k))
                    met += 1
        self.assertEqual(met, 48)

    def test_told_lists_are_the_askers_own(self):
        for wood, yes, right in ((NEVER, 3, NEVER_BAR), (VOID, 1, VOID_BAR)):
            told = least_bar(wood, yes, 0)
            again = least_bar(wood, yes, 0)
            spoil(told)
            self.assertEqual(again, right)
            self.assertEqual(least_bar(wood, yes, 0), right)


class StandingTest(unittest.TestCase):
    def test_void(self):
        for k in range(2):
            self.assertEqual(standing(VOID, k), ("void", VOID_BAR))
        wood = wood_of(1, [], [("most", -1, ((0, 0),))])
        self.assertEqual(standing(wood, 0), ("void", ([0], ("broken", 0), [(0, 1)])))

    def test_void_where_one_option_alone_would_bar_less(self):
        wood = wood_of(3, [(0, 0, 2, (1, 2))], [("bans", 0, 1), ("most", -1, ((0, 0),))])
        for k in range(3):
            self.assertEqual(standing(wood, k), ("void", ([2], ("broken", 2), [(2, 1)])))

    def test_never(self):
        self.assertEqual(standing(NEVER, 1), ("never", NEVER_BAR))

    def test_always(self):
        self.assertEqual(standing(BICYCLE, 1), ("always", ([0], ("broken", 0), [(0, 1)])))
        wood = wood_of(3, [(0, 0, 1, (1,)), (1, 1, 1, (2,))], [("needs", 0, 2)])
        self.assertEqual(standing(wood, 2), ("always", ([2], ("broken", 2), [(2, 1)])))
        right = ([1, 2], ("split", 2, ("broken", 1), ("broken", 2)), [(1, 5), (2, 1)])
        self.assertEqual(standing(wood, 1), ("always", right))

    def test_always_of_0_without_a_bar(self):
        for wood in (BICYCLE, LONE, NINE, NEVER):
            self.assertEqual(standing(wood, 0), ("always", None))

    def test_either(self):
        self.assertEqual(standing(BICYCLE, 2), ("either", set_of(0, 1, 2), set_of(0, 1, 3)))
        self.assertEqual(standing(BICYCLE, 3), ("either", set_of(0, 1, 3), set_of(0, 1, 2)))
        self.assertEqual(standing(BICYCLE, 4), ("either", set_of(0, 1, 2, 4), set_of(0, 1, 2)))
        self.assertEqual(standing(NEVER, 2), ("either", 5, 1))

    def test_every_option_against_the_words(self):
        met = {"void": 0, "never": 0, "always": 0, "either": 0}
        for wood in some_woods(34, 120, 6, 5):
            for k in range(wood[0]):
                told = standing(wood, k)
                self.assertIs(type(told), tuple)
                self.assertEqual(told, standing_by_the_words(wood, k), (wood, k))
                met[told[0]] += 1
        self.assertGreater(min(met.values()), 15, met)

    def test_nine_options_and_all_cross_ties(self):
        for wood in some_woods(35, 36, 9):
            if wood[0] == 9:
                for k in range(9):
                    self.assertEqual(standing(wood, k), standing_by_the_words(wood, k))

    def test_told_lists_are_the_askers_own(self):
        for wood, k, right in ((NEVER, 1, ("never", NEVER_BAR)), (VOID, 1, ("void", VOID_BAR))):
            told = standing(wood, k)
            again = standing(wood, k)
            spoil(told[1])
            self.assertEqual(again, right)
            self.assertEqual(standing(wood, k), right)
        told = standing(BICYCLE, 1)
        spoil(told[1])
        self.assertEqual(standing(BICYCLE, 1), ("always", ([0], ("broken", 0), [(0, 1)])))

    def test_asking_changes_no_wood(self):
        for wood in (BICYCLE, NEVER, VOID):
            given = copy.deepcopy(wood)
            for k, again in itertools.product(range(wood[0]), range(2)):
                standing(wood, k)
                least_bar(wood, 1, 0)
            self.assertEqual(wood, given)
            self.assertEqual(len(ties_of(wood)), many_ties(wood))


def spoil(bar):
    bar[0].append(77)
    bar[0][0] = 78
    bar[2][0] = (0, 0)
    bar[2].append(None)


def standing_by_the_words(wood, k):
    having = [ware for ware in wares_at(wood, 1, 0) if ware >> k & 1]
    without = [ware for ware in wares_at(wood, 1, 0) if not ware >> k & 1]
    if not having and not without:
        return ("void", bar_of(wood, 1, 0))
    if not having:
        return ("never", bar_of(wood, 1 | 2 ** k, 0))
    if not without:
        return ("always", bar_of(wood, 1, 2 ** k) if k else None)
    return ("either", having[0], without[0])


if __name__ == "__main__":
    unittest.main()
