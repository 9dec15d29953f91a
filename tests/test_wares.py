"""Points 9 and 10: all wares, the first one in a stand, and how many ways there are."""

import itertools
import unittest

from samples import (
    BICYCLE, FIFTY, LONE, NINE, NINE_BOUGHS, check_refused, is_kept, options_in, set_of, some_woods, stands, wares_at,
)
from optionwood import errors
from optionwood.wares import first_ware, wares, ways
from optionwood.woods import beneath, wood_of

VOID = wood_of(2, [(0, 1, 1, (1,))], [("bans", 0, 1)])


class WaresTest(unittest.TestCase):
    def test_by_hand(self):
        self.assertEqual(wares(BICYCLE), [set_of(0, 1, 2), set_of(0, 1, 3), set_of(0, 1, 2, 4)])
        self.assertEqual(wares(LONE), [1])
        self.assertEqual(wares(VOID), [])
        self.assertEqual(wares(wood_of(3, [(0, 0, 2, (1, 2))], [])), [1, 3, 5, 7])
        self.assertEqual(wares(wood_of(3, [(0, 0, 2, (1, 2))], [("needs", 2, 1)])), [1, 3, 7])

    def test_every_set_against_the_words(self):
        for wood in some_woods(21, 90, 9):
            told = wares(wood)
            self.assertIs(type(told), list)
            self.assertEqual(told, wares_at(wood, 1, 0), wood)

    def test_numbers_of_fifty_figures(self):
        wood = wood_of(3, [(0, 0, 2, (1, 2))], [("most", FIFTY, ((1, FIFTY), (2, 1)))])
        self.assertEqual(wares(wood), [1, 3, 5])

    def test_told_list_is_the_askers_own(self):
        for wood in (BICYCLE, LONE, VOID):
            told = wares(wood)
            right = list(told)
            again = wares(wood)
            told.append(99)
            told[0] = 98
            self.assertEqual(again, right)
            self.assertEqual(wares(wood), right)
            self.assertEqual(first_ware(wood, 1, 0), right[0] if right else None)


class FirstWareTest(unittest.TestCase):
    def test_by_hand(self):
        self.assertEqual(first_ware(BICYCLE, 1, 0), 7)
        self.assertEqual(first_ware(BICYCLE, set_of(0, 3), 0), 11)
        self.assertEqual(first_ware(BICYCLE, 1, set_of(2)), 11)
        self.assertEqual(first_ware(BICYCLE, set_of(0, 4), 0), 23)
        self.assertEqual(first_ware(BICYCLE, set_of(0, 1, 2, 4), set_of(3)), 23)
        self.assertIsNone(first_ware(BICYCLE, set_of(0, 3, 4), 0))
        self.assertIsNone(first_ware(BICYCLE, 1, set_of(1)))
        self.assertIsNone(first_ware(VOID, 1, 0))
        self.assertIsNone(first_ware(VOID, 0, 0))

    def test_0_is_open(self):
        self.assertEqual(first_ware(BICYCLE, 0, 0), 7)
        self.assertEqual(first_ware(BICYCLE, set_of(3), 0), 11)
        self.assertEqual(first_ware(BICYCLE, set_of(4), set_of(3)), 23)
        self.assertEqual(first_ware(LONE, 0, 0), 1)
        self.assertIsNone(first_ware(BICYCLE, 0, set_of(2, 3)))

    def test_no_has_0(self):
        self.assertIsNone(first_ware(BICYCLE, 0, 1))
        self.assertIsNone(first_ware(BICYCLE, set_of(1, 2), 1))
        self.assertIsNone(first_ware(BICYCLE, 0, set_of(0, 1, 2, 3, 4)))
        self.assertIsNone(first_ware(LONE, 0, 1))
        self.assertIsNone(first_ware(NINE, 0, 1))

    def test_first_is_by_the_number_of_the_set(self):
        wood = wood_of(4, [(0, 1, 3, (1, 2, 3))], [])
        self.assertEqual(first_ware(wood, 1, 0), set_of(0, 1))
        wood = wood_of(4, [(0, 1, 3, (1, 2, 3))], [("needs", 1, 3)])
        self.assertEqual(first_ware(wood, 1, 0), set_of(0, 2))
        wood = wood_of(4, [(0, 1, 3, (1, 2, 3))], [("needs", 1, 2), ("needs", 2, 1)])
        self.assertEqual(first_ware(wood, 1, 0), set_of(0, 1, 2))

    def test_every_stand_against_the_words(self):
        for wood in some_woods(22, 60, 5):
            for yes, no in stands(wood[0]):
                right = wares_at(wood, yes, no)
                self.assertEqual(first_ware(wood, yes, no), right[0] if right else None, (wood, yes, no))

    def test_stands_of_nine_options(self):
        for wood in some_woods(23, 27, 9):
            if wood[0] == 9:
                for k in range(9):
                    for yes, no in ((2 ** k, 0), (0, 2 ** k), (1 | 2 ** k, 0)):
                        right = wares_at(wood, yes, no)
                        self.assertEqual(first_ware(wood, yes, no), right[0] if right else None)


class WaysTest(unittest.TestCase):
    def test_by_hand(self):
        self.assertEqual(ways(LONE), [1])
        self.assertEqual(ways(wood_of(5, list(BICYCLE[1]), [])), [4, 2, 1, 1, 1])
        self.assertEqual(ways(NINE), [30, 1, 1, 4, 1, 1, 1, 1, 1])
        self.assertEqual(ways(wood_of(9, [(0, 0, 8, tuple(range(1, 9)))], [])), [256] + [1] * 8)
        self.assertEqual(ways(wood_of(9, [(0, 4, 4, tuple(range(1, 9)))], [])), [70] + [1] * 8)
        self.assertEqual(ways(wood_of(9, [(0, 2, 3, tuple(range(1, 9)))], [])), [84] + [1] * 8)
        self.assertEqual(ways(wood_of(9, [(0, 8, 8, tuple(range(1, 9)))], [])), [1] * 9)

    def test_chain_of_options_that_may_come(self):
        boughs = [(k, 0, 1, (k + 1,)) for k in range(8)]
        for some in (boughs, boughs[::-1]):
            self.assertEqual(ways(wood_of(9, some, [])), [9, 8, 7, 6, 5, 4, 3, 2, 1])

    def test_boughs_in_any_order(self):
        for boughs in itertools.permutations(NINE_BOUGHS):
            self.assertEqual(ways(wood_of(9, list(boughs), [])), [30, 1, 1, 4, 1, 1, 1, 1, 1])

    def test_every_option_against_sets_counted_one_by_one(self):
        for wood in some_woods(24, 90, 9, 0):
            told = ways(wood)
            self.assertIs(type(told), list)
            self.assertEqual(told, [counted(wood, k) for k in range(wood[0])])
            self.assertEqual(told[0], len(wares(wood)))

    def test_wood_with_a_cross_tie_is_refused(self):
        for tie in (("needs", 1, 2), ("bans", 1, 2), ("most", 99, ((0, 0),)), ("most", 0, ((8, FIFTY),))):
            for cross in ([tie], [tie, tie]):
                check_refused(self, errors.NoCount, ways, wood_of(9, NINE_BOUGHS, cross))
        for wood in (BICYCLE, VOID, wood_of(1, [], [("most", 0, ((0, 0),))])):
            self.assertRaises(errors.NoCount, ways, wood)

    def test_told_list_is_the_askers_own(self):
        told = ways(NINE)
        again = ways(NINE)
        told[0] = 99
        told.append(7)
        self.assertEqual(again, [30, 1, 1, 4, 1, 1, 1, 1, 1])
        self.assertEqual(ways(NINE), again)


def counted(wood, k):
    below = beneath(wood, k)
    boughs = [bough for bough in wood[1] if bough[0] in options_in(below)]
    within = [some for some in range(2 ** wood[0]) if some & ~below == 0 and k in options_in(some)]
    return len([some for some in within if all(is_kept(bough, some) for bough in boughs)])


if __name__ == "__main__":
    unittest.main()
