"""Points 21 and 22: woods folded into their shortest form, and sets unfolded."""

import copy
import random
import unittest

from samples import (
    BICYCLE, FIFTY, LONE, NINE, check_refused, is_kept, keeping, loosened, options_in, set_of, some_woods, ties_of,
    wares_at, woven,
)
from optionwood.errors import NoWares
from optionwood.folds import folded, unfolded
from optionwood.woods import wood_of

VOID = wood_of(2, [(0, 1, 1, (1,))], [("bans", 0, 1)])


def come_of(ware, bough):
    return len([k for k in bough[3] if k in options_in(ware)])


def having_up(wood, bough):
    return [ware for ware in wares_at(wood, 1, 0) if bough[0] in options_in(ware)]


def fewer_options(wood, kept):
    boughs = []
    for up, low, high, kids in wood[1]:
        kids = [k for k in kids if k in kept]
        counts = [come_of(ware, (up, low, high, kids)) for ware in having_up(wood, (up,))]
        if up in kept and kids:
            boughs.append((kept.index(up), min(counts), max(counts), tuple(kept.index(k) for k in kids)))
    cross = []
    for tie in wood[2]:
        if tie[0] == "most":
            pairs = tuple((kept.index(k), number) for k, number in tie[2] if k in kept)
            cross += [("most", tie[1], pairs)] if pairs else []
        elif {tie[1], tie[2]} <= set(kept):
            cross.append((tie[0], kept.index(tie[1]), kept.index(tie[2])))
    return wood_of(len(kept), boughs, cross)


def breaking(wood, t):
    """The sets with 0 that keep all ties of the wood but t, and break it."""
    rest = [u for u in range(len(ties_of(wood))) if u != t]
    return [some for some in keeping(wood, rest, 1, 0) if not is_kept(ties_of(wood)[t], some)]


def folded_by_the_words(wood):
    kept = [k for k in range(wood[0]) if wares_at(wood, 1 | 2 ** k, 0)]
    left = fewer_options(wood, kept)
    first = len(left[1])
    t = first
    while t < len(ties_of(left)):
        if breaking(left, t):
            t += 1
        else:
            left = wood_of(left[0], list(left[1]), [left[2][u] for u in range(len(left[2])) if first + u != t])
    tight = []
    for bough in left[1]:
        sold = having_up(left, bough)
        tight.append(tuple([ware for ware in sold if come_of(ware, bough) == bound][0] for bound in bough[1:3]))
    needed = [breaking(left, t)[0] for t in range(first, len(ties_of(left)))]
    return (left, kept, tight, needed)


class RefusedTest(unittest.TestCase):
    def test_void(self):
        check_refused(self, NoWares, folded, VOID)
        check_refused(self, NoWares, folded, wood_of(1, [], [("most", -1, ((0, 0),))]))
        void = 0
        for wood in some_woods(91, 120, 6):
            if not wares_at(wood, 1, 0):
                check_refused(self, NoWares, folded, wood)
                void += 1
        self.assertGreater(void, 20)


class FoldedTest(unittest.TestCase):
    def test_nothing_to_fold(self):
        self.assertEqual(folded(LONE), (LONE, [0], [], []))
        wood = wood_of(3, [(0, 0, 2, (1, 2))], [("needs", 1, 2)])
        self.assertEqual(folded(wood), (wood, [0, 1, 2], [(1, 7)], [3]))

    def test_bicycle(self):
        # The sums never come to too much, so that tie goes.
        wood = wood_of(5, list(BICYCLE[1]), [("needs", 4, 2)])
        tight = [(set_of(0, 1, 2),) * 2, (set_of(0, 1, 2),) * 2, (set_of(0, 1, 2), set_of(0, 1, 2, 4))]
        self.assertEqual(folded(BICYCLE), (wood, [0, 1, 2, 3, 4], tight, [set_of(0, 1, 3, 4)]))

    def test_options_that_never_come_go(self):
        boughs = [(0, 0, 3, (1, 2, 3)), (1, 1, 1, (4,)), (2, 0, 1, (5,)), (3, 0, 2, (6, 7))]
        wood = wood_of(8, boughs, [("bans", 1, 0), ("bans", 0, 6), ("bans", 5, 3)])
        left = wood_of(5, [(0, 0, 2, (1, 2)), (1, 0, 1, (3,)), (2, 0, 1, (4,))], [("bans", 3, 2)])
        tight = [(1, 7), (3, set_of(0, 1, 3)), (5, set_of(0, 2, 4))]
        self.assertEqual(folded(wood), (left, [0, 2, 3, 5, 7], tight, [set_of(0, 1, 2, 3)]))

    def test_bough_without_up_and_bough_without_kids(self):
        wood = wood_of(
            5, [(2, 1, 1, (3,)), (0, 0, 1, (1,)), (0, 0, 1, (2,)), (1, 0, 1, (4,))], [("bans", 0, 2), ("bans", 4, 0)],
        )
        self.assertEqual(folded(wood), (wood_of(2, [(0, 0, 1, (1,))], []), [0, 1], [(1, 3)], []))

    def test_all_options_but_0_go(self):
        wood = wood_of(3, [(0, 0, 2, (1, 2))], [("bans", 0, 1), ("bans", 2, 0), ("most", 1, ((0, 1), (2, 1)))])
        self.assertEqual(folded(wood), (LONE, [0], [], []))

    def test_needs_and_bans_that_lose_an_option_go(self):
        cross = [("needs", 1, 2), ("bans", 2, 0), ("needs", 2, 3), ("bans", 3, 1), ("bans", 3, 4)]
        wood = wood_of(5, [(0, 0, 4, (1, 2, 3, 4))], cross)
        left = wood_of(3, [(0, 0, 1, (1, 2))], [])
        self.assertEqual(folded(wood), (left, [0, 3, 4], [(1, 3)], []))

    def test_most_that_loses_pairs(self):
        cross = [("bans", 0, 2), ("most", 3, ((1, 2), (2, 5), (3, 2))), ("most", 0, ((2, FIFTY),))]
        wood = wood_of(5, [(0, 0, 4, (1, 2, 3, 4))], cross)
        left = wood_of(4, [(0, 0, 2, (1, 2, 3))], [("most", 3, ((1, 2), (2, 2)))])
        told = folded(wood)
        self.assertEqual(told[0], left)
        self.assertEqual(told, (left, [0, 1, 3, 4], [(1, set_of(0, 1, 3))], [set_of(0, 1, 2)]))

    def test_most_whose_pairs_below_0_go(self):
        # 2 would make room for 1, but 2 never comes.
        cross = [("most", 1, ((1, 2), (2, -5), (3, 1))), ("bans", 0, 2)]
        wood = wood_of(4, [(0, 0, 3, (1, 2, 3))], cross)
        self.assertEqual(folded(wood), (wood_of(2, [(0, 0, 1, (1,))], []), [0, 3], [(1, 3)], []))

    def test_low_and_high_are_made_tight(self):
        wood = wood_of(4, [(0, 0, 3, (1, 2, 3))], [("needs", 0, 1), ("bans", 2, 3)])
        # With high so tight and 1 always there, 2 and 3 don't come together.
        left = wood_of(4, [(0, 1, 2, (1, 2, 3))], [("needs", 0, 1)])
        self.assertEqual(folded(wood), (left, [0, 1, 2, 3], [(3, 7)], [set_of(0, 2)]))
        # made so by the wares with up alone
        wood = wood_of(4, [(0, 0, 1, (1,)), (1, 0, 2, (2, 3))], [("needs", 1, 2), ("needs", 1, 3)])
        left = wood_of(4, [(0, 0, 1, (1,)), (1, 2, 2, (2, 3))], [])
        self.assertEqual(folded(wood), (left, [0, 1, 2, 3], [(1, 15), (15, 15)], []))

    def test_of_two_ties_alike_the_first_goes(self):
        free = [(0, 0, 2, (1, 2))]
        wood = wood_of(3, free, [("needs", 1, 2), ("needs", 1, 2)])
        self.assertEqual(folded(wood)[0], wood_of(3, free, [("needs", 1, 2)]))
        wood = wood_of(3, free, [("needs", 1, 2), ("most", 0, ((1, 1), (2, -1)))])
        self.assertEqual(folded(wood), (wood_of(3, free, [("most", 0, ((1, 1), (2, -1)))]), [0, 1, 2], [(1, 7)], [3]))
        wood = wood_of(3, free, [("most", 0, ((1, 1), (2, -1))), ("needs", 1, 2)])
        self.assertEqual(folded(wood), (wood_of(3, free, [("needs", 1, 2)]), [0, 1, 2], [(1, 7)], [3]))

    def test_ties_that_hold_each_other_up(self):
        # Of two rings that turn either way each tie follows from the other ring, until that has lost one.
        free = [(0, 0, 3, (1, 2, 3))]
        ring = [("needs", 1, 2), ("needs", 2, 3), ("needs", 3, 1), ("needs", 1, 3), ("needs", 3, 2), ("needs", 2, 1)]
        told = folded(wood_of(4, free, ring))
        left = wood_of(4, free, ring[3:])
        self.assertEqual(told, (left, [0, 1, 2, 3], [(1, 15)], [set_of(0, 1), set_of(0, 3), set_of(0, 2)]))

    def test_all_sets_gone_through(self):
        seen = {"options gone": 0, "boughs gone": 0, "tightened": 0, "ties gone": 0, "ties stay": 0}
        chance = random.Random(92)
        given = some_woods(92, 300, 6, 5)
        for wood in given + [loosened(wood) for wood in given] + [woven(chance) for place in range(60)]:
            if wares_at(wood, 1, 0):
                told = folded(wood)
                self.assertEqual(told, folded_by_the_words(wood), wood)
                self.check_folded(wood, told)
                left = told[0]
                seen["options gone"] += left[0] < wood[0]
                seen["boughs gone"] += len(left[1]) < len(wood[1])
                seen["tightened"] += [bough[1:3] for bough in left[1]] != [bough[1:3] for bough in wood[1]]
                seen["ties gone"] += len(left[2]) < len(wood[2])
                seen["ties stay"] += len(left[2]) > 1
        self.assertGreater(min(seen.values()), 12, seen)

    def check_folded(self, wood, told):
        left, kept, tight, needed = told
        self.assertEqual(wood_of(left[0], list(left[1]), list(left[2])), left)
        self.assertEqual([type(part) for part in told], [tuple, list, list, list])
        self.assertTrue(all(type(pair) is tuple for pair in tight))
        self.assertEqual([unfolded(kept, ware) for ware in wares_at(left, 1, 0)], wares_at(wood, 1, 0))
        for k in range(left[0]):
            self.assertTrue(wares_at(left, 1 | 2 ** k, 0))
        again = folded(left)
        self.assertEqual(again, (left, list(range(left[0])), tight, needed))

    def test_nine_options(self):
        woods = [NINE] + [wood for wood in some_woods(93, 90, 9, 4) if wood[0] == 9 and wares_at(wood, 1, 0)]
        self.assertGreater(len(woods), 3)
        for wood in woods:
            told = folded(wood)
            self.assertEqual(told, folded_by_the_words(wood), wood)
            self.check_folded(wood, told)

    def test_told_lists_are_the_askers_own(self):
        for wood in (BICYCLE, LONE, wood_of(3, [(0, 0, 2, (1, 2))], [("needs", 1, 2)])):
            right = folded_by_the_words(wood)
            told = folded(wood)
            again = folded(wood)
            for part in told[1:]:
                part.append(99)
                part[0] = 98
            self.assertEqual(again, right)
            self.assertEqual(folded(wood), right)

    def test_asking_changes_no_wood(self):
        given = copy.deepcopy(BICYCLE)
        folded(BICYCLE)
        self.assertEqual(BICYCLE, given)


class UnfoldedTest(unittest.TestCase):
    def test_by_hand(self):
        self.assertEqual(unfolded([0, 2, 5, 8], 0), 0)
        self.assertEqual(unfolded([0, 2, 5, 8], 1), 1)
        self.assertEqual(unfolded([0, 2, 5, 8], set_of(1)), set_of(2))
        self.assertEqual(unfolded([0, 2, 5, 8], set_of(0, 2, 3)), set_of(0, 5, 8))
        self.assertEqual(unfolded([0, 2, 5, 8], set_of(0, 1, 2, 3)), set_of(0, 2, 5, 8))
        self.assertEqual(unfolded(list(range(9)), 345), 345)

    def test_every_set_and_the_list_stays(self):
        chance = random.Random(94)
        for many in range(1, 10):
            kept = [0] + sorted(chance.sample(range(1, 9), many - 1))
            given = list(kept)
            for some in range(2 ** many):
                self.assertEqual(unfolded(kept, some), set_of(*[kept[k] for k in options_in(some)]))
            self.assertEqual(kept, given)


if __name__ == "__main__":
    unittest.main()
