"""Point 7: ties that are broken, or kept, for sure at a stand."""

import itertools
import unittest

from samples import FIFTY, is_kept, set_of, sets_in, some_woods, stands, ties_of
from optionwood.ties import sure_broken, sure_kept


class SureTest(unittest.TestCase):
    def check_all_stands(self, many, tie):
        kept = [is_kept(tie, some) for some in range(2 ** many)]
        for yes, no in stands(many):
            told = [kept[some] for some in sets_in(many, yes, no)]
            self.assertIs(sure_broken(tie, yes, no), not any(told), (tie, yes, no))
            self.assertIs(sure_kept(tie, yes, no), all(told), (tie, yes, no))

    def check(self, tie, yes, no, broken, kept):
        stand = (set_of(*yes), set_of(*no))
        self.assertIs(sure_broken(tie, *stand), broken, (tie, yes, no))
        self.assertIs(sure_kept(tie, *stand), kept, (tie, yes, no))

    def test_boughs_by_hand(self):
        bough = (0, 1, 1, (1, 2))
        self.check(bough, (), (), False, False)
        self.check(bough, (0,), (), False, False)
        self.check(bough, (0,), (1,), False, False)
        self.check(bough, (0,), (1, 2), True, False)
        self.check(bough, (0, 1, 2), (), True, False)
        self.check(bough, (1, 2), (), True, False)
        self.check(bough, (0, 1), (2,), False, True)
        self.check(bough, (1,), (2,), False, False)
        self.check(bough, (1,), (0,), True, False)
        self.check(bough, (), (0,), False, False)
        self.check(bough, (), (0, 1, 2), False, True)
        self.check(bough, (), (1, 2), False, False)

    def test_bough_that_asks_for_none(self):
        self.check((0, 0, 2, (1, 2)), (0,), (), False, True)
        self.check((0, 0, 2, (1, 2)), (), (), False, False)
        self.check((0, 0, 2, (1, 2)), (), (1, 2), False, True)
        self.check((0, 0, 1, (1, 2)), (0,), (), False, False)

    def test_needs_and_bans_by_hand(self):
        self.check(("needs", 1, 2), (), (), False, False)
        self.check(("needs", 1, 2), (1,), (), False, False)
        self.check(("needs", 1, 2), (1,), (2,), True, False)
        self.check(("needs", 1, 2), (), (1,), False, True)
        self.check(("needs", 1, 2), (2,), (), False, True)
        self.check(("needs", 1, 2), (), (2,), False, False)
        self.check(("bans", 1, 2), (), (), False, False)
        self.check(("bans", 1, 2), (1,), (), False, False)
        self.check(("bans", 1, 2), (1, 2), (), True, False)
        self.check(("bans", 1, 2), (), (1,), False, True)
        self.check(("bans", 1, 2), (1,), (2,), False, True)

    def test_most_by_hand(self):
        tie = ("most", 2, ((0, 3), (1, -1), (2, 0)))
        self.check(tie, (), (), False, False)
        self.check(tie, (0,), (), False, False)
        self.check(tie, (0,), (1,), True, False)
        self.check(tie, (0, 1), (), False, True)
        self.check(tie, (), (0,), False, True)
        self.check(("most", -1, ((0, 0),)), (), (), True, False)
        self.check(("most", 0, ((0, 0),)), (), (), False, True)
        self.check(("most", -FIFTY, ((0, -FIFTY), (1, 1))), (), (), False, False)
        self.check(("most", -FIFTY, ((0, -FIFTY), (1, 1))), (0, 1), (), True, False)
        self.check(("most", -FIFTY, ((0, -FIFTY), (1, 1))), (0,), (1,), False, True)

    def test_every_bough_of_four_options(self):
        for up in range(3):
            for size in range(1, 4 - up):
                for kids in itertools.combinations(range(up + 1, 4), size):
                    for high in range(1, size + 1):
                        for low in range(high + 1):
                            self.check_all_stands(4, (up, low, high, kids))

    def test_wide_boughs(self):
        for low, high in ((0, 4), (1, 1), (2, 3), (4, 4), (0, 1)):
            self.check_all_stands(6, (1, low, high, (2, 3, 4, 5)))

    def test_every_needs_and_bans_of_four_options(self):
        for a, b in itertools.permutations(range(4), 2):
            self.check_all_stands(4, ("needs", a, b))
            self.check_all_stands(4, ("bans", a, b))

    def test_many_most_ties(self):
        for top in range(-4, 6):
            for numbers in itertools.product((-2, -1, 0, 1, 3), repeat=3):
                self.check_all_stands(3, ("most", top, tuple(enumerate(numbers))))

    def test_most_ties_of_fifty_figures(self):
        for top in (-FIFTY - 1, -FIFTY, -1, 0, 1, FIFTY - 1, FIFTY, FIFTY + 1):
            self.check_all_stands(5, ("most", top, ((0, FIFTY), (2, -FIFTY), (3, 0), (4, 1))))

    def test_ties_of_many_woods(self):
        for wood in some_woods(9, 25, 5):
            for tie in ties_of(wood):
                self.check_all_stands(wood[0], tie)


if __name__ == "__main__":
    unittest.main()
