"""Point 14: options that come together, and wares that part the others."""

import copy
import unittest

from samples import BICYCLE, FIFTY, LONE, NINE, set_of, some_woods, wares_at
from optionwood.flocks import flocks
from optionwood.woods import wood_of

VOID = wood_of(4, [(0, 1, 2, (1, 2)), (1, 0, 1, (3,))], [("bans", 0, 1), ("bans", 2, 0)])
# 0 and 1 always come, 2 and 4 together or not at all, 3 and 5 never.
PAIRS = wood_of(
    6,
    [(0, 1, 1, (1,)), (0, 0, 4, (2, 3, 4, 5))],
    [("needs", 2, 4), ("needs", 4, 2), ("bans", 3, 0), ("most", 0, ((5, FIFTY),))],
)


def flocks_by_the_words(wood):
    sold = wares_at(wood, 1, 0)
    found = []
    for k in range(wood[0]):
        together = [other for other in range(wood[0]) if not parting(sold, k, other)]
        if together not in found:
            found.append(together)
    parts = []
    for one in found:
        for other in found[found.index(one) + 1:]:
            parts.append((one[0], other[0], parting(sold, one[0], other[0])[0]))
    return (found, parts)


def parting(sold, a, b):
    return [ware for ware in sold if ware // 2 ** a % 2 != ware // 2 ** b % 2]


class FlocksTest(unittest.TestCase):
    def test_by_hand(self):
        self.assertEqual(
            flocks(BICYCLE),
            (
                [[0, 1], [2], [3], [4]],
                [(0, 2, 11), (0, 3, 7), (0, 4, 7), (2, 3, 7), (2, 4, 7), (3, 4, 11)],
            ),
        )
        self.assertEqual(flocks(PAIRS), ([[0, 1], [2, 4], [3, 5]], [(0, 2, 3), (0, 3, 3), (2, 3, set_of(0, 1, 2, 4))]))

    def test_one_option(self):
        self.assertEqual(flocks(LONE), ([[0]], []))
        self.assertEqual(flocks(wood_of(1, [], [("most", -1, ((0, 0),))])), ([[0]], []))

    def test_void_wood_is_one_flock(self):
        self.assertEqual(flocks(VOID), ([[0, 1, 2, 3]], []))

    def test_options_that_always_come_are_one_flock(self):
        wood = wood_of(4, [(0, 2, 2, (1, 3)), (1, 1, 1, (2,))], [])
        self.assertEqual(flocks(wood), ([[0, 1, 2, 3]], []))

    def test_options_that_never_come_are_one_flock(self):
        wood = wood_of(4, [(0, 0, 3, (1, 2, 3))], [("bans", 0, 1), ("bans", 0, 3), ("bans", 0, 2)])
        self.assertEqual(flocks(wood), ([[0], [1, 2, 3]], [(0, 1, 1)]))

    def test_flocks_stand_by_their_least_options(self):
        wood = wood_of(
            5, [(0, 0, 4, (1, 2, 3, 4))], [("needs", 1, 4), ("needs", 4, 1), ("needs", 2, 3), ("needs", 3, 2)],
        )
        found, parts = flocks(wood)
        self.assertEqual(found, [[0], [1, 4], [2, 3]])
        self.assertEqual(parts, [(0, 1, 1), (0, 2, 1), (1, 2, set_of(0, 2, 3))])

    def test_all_wares_gone_through(self):
        met = set()
        for wood in some_woods(41, 200, 6, 5):
            told = flocks(wood)
            self.assertEqual(told, flocks_by_the_words(wood), wood)
            self.assertEqual([type(told), type(told[0]), type(told[1])], [tuple, list, list])
            self.assertTrue(all(type(flock) is list for flock in told[0]))
            self.assertTrue(all(type(part) is tuple for part in told[1]))
            met.add(len(told[0]))
        self.assertLessEqual({1, 2, 3, 4, 5, 6}, met)

    def test_nine_options(self):
        for wood in [NINE] + [wood for wood in some_woods(42, 36, 9, 4) if wood[0] == 9]:
            self.assertEqual(flocks(wood), flocks_by_the_words(wood), wood)

    def test_told_lists_are_the_askers_own(self):
        for wood in (BICYCLE, PAIRS, VOID, LONE):
            right = flocks_by_the_words(wood)
            told = flocks(wood)
            again = flocks(wood)
            told[0][0].append(77)
            told[0].append([78])
            told[1].append((7, 7, 7))
            told[1][0] = None
            self.assertEqual(again, right)
            self.assertEqual(flocks(wood), right)

    def test_asking_changes_no_wood(self):
        for wood in (BICYCLE, PAIRS, VOID):
            given = copy.deepcopy(wood)
            flocks(wood)
            self.assertEqual(wood, given)


if __name__ == "__main__":
    unittest.main()
