"""Point 6: which sets keep a tie, the first tie that a set breaks, and what is a ware."""

import itertools
import unittest

from samples import BICYCLE, FIFTY, LONE, NINE, is_kept, set_of, some_woods, ties_of
from optionwood.ties import first_broken, is_ware, keeps
from optionwood.woods import many_ties, tie_at, wood_of


class KeepsTest(unittest.TestCase):
    def check(self, right, tie, *options):
        self.assertIs(keeps(tie, set_of(*options)), right, (tie, options))

    def test_up_and_from_low_to_high_of_the_kids(self):
        bough = (1, 1, 2, (2, 4, 5))
        self.check(False, bough, 1)
        for k in (2, 4, 5):
            self.check(True, bough, 1, k)
        for pair in itertools.combinations((2, 4, 5), 2):
            self.check(True, bough, 1, *pair)
        self.check(False, bough, 1, 2, 4, 5)

    def test_neither_up_nor_kids(self):
        for low, high in ((0, 1), (1, 1), (2, 3), (3, 3)):
            self.check(True, (1, low, high, (2, 4, 5)))
            self.check(True, (1, low, high, (2, 4, 5)), 0, 3, 6)

    def test_kid_without_its_up(self):
        for low, high in ((0, 1), (0, 3), (1, 1), (1, 3), (3, 3)):
            self.check(False, (1, low, high, (2, 4, 5)), 0, 2)
            self.check(False, (1, low, high, (2, 4, 5)), 5)
            self.check(False, (1, low, high, (2, 4, 5)), 0, 2, 4, 5)

    def test_up_with_too_few_or_too_many(self):
        self.check(False, (0, 2, 2, (1, 2, 3)), 0, 3)
        self.check(True, (0, 2, 2, (1, 2, 3)), 0, 1, 3)
        self.check(False, (0, 2, 2, (1, 2, 3)), 0, 1, 2, 3)
        self.check(False, (0, 1, 1, (1,)), 0)
        self.check(True, (0, 1, 1, (1,)), 0, 1)

    def test_up_without_kids_where_none_is_asked_for(self):
        self.check(True, (0, 0, 1, (1, 2)), 0)
        self.check(True, (0, 0, 1, (1, 2)), 0, 3, 4)
        self.check(False, (0, 0, 1, (1, 2)), 0, 1, 2)

    def test_other_options_are_left_aside(self):
        self.check(True, (2, 1, 1, (3, 8)), 0, 1, 2, 4, 5, 6, 7, 8)
        self.check(False, (2, 1, 1, (3, 8)), 0, 1, 2, 4, 5, 6, 7)

    def test_needs(self):
        for a, b in ((1, 2), (2, 1), (0, 8), (8, 0)):
            self.check(True, ("needs", a, b))
            self.check(False, ("needs", a, b), a)
            self.check(True, ("needs", a, b), b)
            self.check(True, ("needs", a, b), a, b)
            self.check(False, ("needs", a, b), 3, a, 5)

    def test_bans(self):
        for a, b in ((1, 2), (2, 1), (0, 8), (8, 0)):
            self.check(True, ("bans", a, b))
            self.check(True, ("bans", a, b), a)
            self.check(True, ("bans", a, b), b)
            self.check(False, ("bans", a, b), a, b)
            self.check(False, ("bans", a, b), 3, a, b)

    def test_most_of_either_sign(self):
        tie = ("most", 3, ((0, 2), (1, 2), (4, -1), (5, 0)))
        self.check(True, tie)
        self.check(True, tie, 0)
        self.check(False, tie, 0, 1)
        self.check(True, tie, 0, 1, 4)
        self.check(False, tie, 0, 1, 5)
        self.check(True, tie, 0, 2, 3, 6)

    def test_most_just_at_the_top(self):
        for top in (-3, -1, 0, 1, 7):
            self.check(True, ("most", top, ((1, top),)), 1)
            self.check(False, ("most", top, ((1, top + 1),)), 1)
            self.check(True, ("most", top, ((1, top - 1),)), 1)

    def test_most_where_nothing_comes(self):
        self.check(True, ("most", 0, ((1, 5),)), 0)
        self.check(False, ("most", -1, ((1, -5),)), 0)
        self.check(True, ("most", -1, ((1, -5),)), 1)
        self.check(False, ("most", -1, ((1, 0),)), 1)

    def test_most_of_fifty_figures(self):
        tie = ("most", FIFTY, ((1, FIFTY), (2, 1), (3, -FIFTY), (4, 0)))
        self.check(True, tie, 1)
        self.check(True, tie, 1, 4)
        self.check(False, tie, 1, 2)
        self.check(True, tie, 1, 2, 3)
        self.check(False, ("most", -FIFTY, ((3, -FIFTY), (4, 1))), 3, 4)
        self.check(True, ("most", -FIFTY, ((3, -FIFTY), (4, 1))), 3)
        self.check(False, ("most", -FIFTY, ((3, -FIFTY), (4, 1))))

    def test_every_set_against_the_words(self):
        for wood in some_woods(6, 60, 6):
            for tie in ties_of(wood):
                for some in range(2 ** wood[0]):
                    self.assertIs(keeps(tie, some), is_kept(tie, some), (tie, some))


class FirstBrokenTest(unittest.TestCase):
    def test_none_is_broken(self):
        for some in (set_of(0, 1, 2), set_of(0, 1, 3), set_of(0, 1, 2, 4), 0):
            self.assertIsNone(first_broken(BICYCLE, some))
        self.assertIsNone(first_broken(LONE, 0))
        self.assertIsNone(first_broken(LONE, 1))

    def test_the_first_of_several(self):
        self.assertEqual(first_broken(BICYCLE, set_of(0)), 0)
        self.assertEqual(first_broken(BICYCLE, set_of(0, 2, 4)), 0)
        self.assertEqual(first_broken(BICYCLE, set_of(0, 1)), 1)
        self.assertEqual(first_broken(BICYCLE, set_of(0, 1, 4)), 1)
        self.assertEqual(first_broken(BICYCLE, set_of(2, 4)), 1)
        self.assertEqual(first_broken(BICYCLE, set_of(4)), 2)
        self.assertEqual(first_broken(BICYCLE, set_of(0, 1, 3, 4)), 3)

    def test_boughs_ahead_of_cross_ties(self):
        wood = wood_of(3, [(0, 1, 1, (2,)), (0, 1, 1, (1,))], [("needs", 0, 1), ("needs", 0, 2), ("bans", 1, 2)])
        self.assertEqual(first_broken(wood, set_of(0)), 0)
        self.assertEqual(first_broken(wood, set_of(0, 2)), 1)
        self.assertEqual(first_broken(wood, set_of(0, 1, 2)), 4)

    def test_every_set_against_the_words(self):
        for wood in some_woods(7, 60, 6):
            for some in range(2 ** wood[0]):
                broken = [t for t, tie in enumerate(ties_of(wood)) if not is_kept(tie, some)]
                told = first_broken(wood, some)
                self.assertEqual(told, broken[0] if broken else None)
                if told is not None:
                    self.assertIs(type(told), int)
                    self.assertIn(told, range(many_ties(wood)))
                    self.assertFalse(keeps(tie_at(wood, told), some))


class WareTest(unittest.TestCase):
    def test_wares_of_the_bicycle(self):
        wares = [set_of(0, 1, 2), set_of(0, 1, 3), set_of(0, 1, 2, 4)]
        for some in range(2 ** 5):
            self.assertIs(is_ware(BICYCLE, some), some in wares)

    def test_a_set_without_0_is_none(self):
        self.assertIs(is_ware(LONE, 0), False)
        self.assertIs(is_ware(LONE, 1), True)
        self.assertIsNone(first_broken(NINE, 0))
        for some in range(0, 2 ** 9, 2):
            self.assertIs(is_ware(NINE, some), False)

    def test_without_0_though_all_ties_are_kept(self):
        wood = wood_of(2, [(0, 0, 1, (1,))], [("most", -1, ((0, 1),))])
        for some in range(4):
            self.assertIs(is_ware(wood, some), False)

    def test_every_set_against_the_words(self):
        for wood in some_woods(8, 60, 6):
            for some in range(2 ** wood[0]):
                right = some % 2 == 1 and all(is_kept(tie, some) for tie in ties_of(wood))
                self.assertIs(is_ware(wood, some), right)


if __name__ == "__main__":
    unittest.main()
