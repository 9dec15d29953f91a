"""Point 15: choosing step by step, and taking back."""

import copy
import itertools
import random
import unittest

from samples import (
    BICYCLE, FIFTY, LONE, NINE, check_refused, open_at, options_in, set_of, some_woods, wares_at,
)
from optionwood.choice import Choice
from optionwood.errors import NoOffer, NoWares
from optionwood.woods import wood_of

VOID = wood_of(2, [(0, 1, 1, (1,))], [("bans", 0, 1)])
FREE = wood_of(4, [(0, 0, 3, (1, 2, 3))], [])
FAR_NUMBERS = (-1, -2, -5, 5, 6, 9, 64, 10 ** 59, -10 ** 59)


def offers_by_the_words(wood, yes, no):
    offers = []
    for k in open_at(wood, yes, no):
        if wares_at(wood, yes, no | 2 ** k):
            offers.append((k, False))
        if wares_at(wood, yes | 2 ** k, no):
            offers.append((k, True))
    return offers


def all_told(choice):
    return (choice.stand(), choice.chosen(), choice.offers(), choice.ware())


def told_by_the_words(wood, chosen):
    yes = set_of(0, *[k for k, value in chosen if value])
    no = set_of(*[k for k, value in chosen if not value])
    return ((yes, no), list(chosen), offers_by_the_words(wood, yes, no), wares_at(wood, yes, no)[0])


class BegunTest(unittest.TestCase):
    def test_void_wood_is_refused(self):
        check_refused(self, NoWares, Choice, VOID)
        check_refused(self, NoWares, Choice, wood_of(1, [], [("most", -1, ((0, 0),))]))
        void = 0
        for wood in some_woods(51, 120, 6):
            if not wares_at(wood, 1, 0):
                check_refused(self, NoWares, Choice, wood)
                void += 1
        self.assertGreater(void, 20)

    def test_bicycle(self):
        choice = Choice(BICYCLE)
        self.assertEqual(choice.stand(), (1, 0))
        self.assertEqual(choice.chosen(), [])
        self.assertEqual(choice.ware(), set_of(0, 1, 2))
        offers = [(1, True), (2, False), (2, True), (3, False), (3, True), (4, False), (4, True)]
        self.assertEqual(choice.offers(), offers)

    def test_one_option_alone(self):
        self.assertEqual(all_told(Choice(LONE)), ((1, 0), [], [], 1))

    def test_woods_against_the_words(self):
        for wood in some_woods(52, 120, 6):
            if wares_at(wood, 1, 0):
                told = all_told(Choice(wood))
                self.assertEqual(told, told_by_the_words(wood, []), wood)
                self.assertEqual([type(part) for part in told], [tuple, list, list, int])
                self.assertTrue(all(type(offer) is tuple and type(offer[1]) is bool for offer in told[2]))


class DeedsTest(unittest.TestCase):
    def check_nothing_done(self, choice, deed, *given):
        before = all_told(choice)
        check_refused(self, NoOffer, deed, *given)
        self.assertEqual(all_told(choice), before)

    def test_chosen_either_way(self):
        choice = Choice(BICYCLE)
        self.assertIsNone(choice.choose(4, True))
        self.assertEqual(all_told(choice), told_by_the_words(BICYCLE, [(4, True)]))
        self.assertEqual(choice.stand(), (set_of(0, 4), 0))
        self.assertEqual(choice.offers(), [(1, True), (2, True), (3, False)])
        self.assertEqual(choice.ware(), set_of(0, 1, 2, 4))
        choice = Choice(BICYCLE)
        self.assertIsNone(choice.choose(2, False))
        self.assertEqual(choice.stand(), (1, set_of(2)))
        self.assertEqual(choice.chosen(), [(2, False)])
        self.assertEqual(choice.offers(), [(1, True), (3, True), (4, False)])
        self.assertEqual(choice.ware(), set_of(0, 1, 3))

    def test_what_is_not_offered(self):
        choice = Choice(BICYCLE)
        self.check_nothing_done(choice, choice.choose, 1, False)
        choice.choose(2, False)
        for k, value in ((1, False), (3, False), (4, True)):
            self.check_nothing_done(choice, choice.choose, k, value)
        choice.choose(3, True)
        choice.choose(4, False)
        self.check_nothing_done(choice, choice.choose, 1, False)

    def test_what_is_chosen_already(self):
        for k, first in ((1, True), (2, True), (2, False), (4, True), (4, False)):
            choice = Choice(BICYCLE)
            choice.choose(k, first)
            for value in (True, False):
                self.check_nothing_done(choice, choice.choose, k, value)

    def test_0_and_what_is_no_option(self):
        for wood in (BICYCLE, wood_of(5, [(0, 0, 4, (1, 2, 3, 4))], [])):
            choice = Choice(wood)
            for k, value in itertools.product((0,) + FAR_NUMBERS, (True, False)):
                self.check_nothing_done(choice, choice.choose, k, value)
            choice.choose(2, True)
            for k, value in itertools.product((0,) + FAR_NUMBERS, (True, False)):
                self.check_nothing_done(choice, choice.choose, k, value)
        for k, value in itertools.product((0, 1, -1, 10 ** 59), (True, False)):
            self.check_nothing_done(Choice(LONE), Choice(LONE).choose, k, value)

    def test_taken_back_in_any_order(self):
        picks = [(3, False), (1, True), (4, True)]
        for order in itertools.permutations([1, 3, 4]):
            choice = Choice(BICYCLE)
            for k, value in picks:
                choice.choose(k, value)
            left = list(picks)
            for k in order:
                self.assertIsNone(choice.take_back(k))
                left = [pick for pick in left if pick[0] != k]
                self.assertEqual(all_told(choice), told_by_the_words(BICYCLE, left))
            self.assertEqual(all_told(choice), all_told(Choice(BICYCLE)))

    def test_taken_back_what_was_not_chosen(self):
        choice = Choice(BICYCLE)
        for k in (0, 1, 2, 3, 4) + FAR_NUMBERS:
            self.check_nothing_done(choice, choice.take_back, k)
        choice.choose(2, False)
        choice.choose(1, True)
        for k in (0, 3, 4) + FAR_NUMBERS:
            self.check_nothing_done(choice, choice.take_back, k)
        choice.take_back(2)
        self.check_nothing_done(choice, choice.take_back, 2)

    def test_chosen_stands_in_the_order_of_the_deeds(self):
        choice = Choice(FREE)
        for k, value in ((3, True), (1, False), (2, True)):
            choice.choose(k, value)
        self.assertEqual(choice.chosen(), [(3, True), (1, False), (2, True)])
        choice.take_back(3)
        self.assertEqual(choice.chosen(), [(1, False), (2, True)])
        choice.choose(3, False)
        self.assertEqual(choice.chosen(), [(1, False), (2, True), (3, False)])
        choice.take_back(1)
        choice.choose(1, True)
        self.assertEqual(choice.chosen(), [(2, True), (3, False), (1, True)])
        self.assertEqual(choice.stand(), (set_of(0, 1, 2), set_of(3)))
        self.assertEqual(choice.offers(), [])
        self.assertEqual(choice.ware(), set_of(0, 1, 2))

    def test_what_was_taken_back_may_be_chosen_otherwise(self):
        choice = Choice(BICYCLE)
        choice.choose(4, True)
        self.check_nothing_done(choice, choice.choose, 2, False)
        choice.take_back(4)
        choice.choose(2, False)
        self.check_nothing_done(choice, choice.choose, 4, True)
        self.assertEqual(choice.chosen(), [(2, False)])

    def test_two_choices_of_one_wood(self):
        one = Choice(BICYCLE)
        other = Choice(BICYCLE)
        one.choose(4, True)
        self.assertEqual(all_told(other), told_by_the_words(BICYCLE, []))
        other.choose(2, False)
        self.assertEqual(all_told(one), told_by_the_words(BICYCLE, [(4, True)]))
        one.take_back(4)
        self.assertEqual(all_told(other), told_by_the_words(BICYCLE, [(2, False)]))
        self.assertRaises(NoOffer, one.take_back, 2)

    def test_told_lists_are_the_askers_own(self):
        choice = Choice(BICYCLE)
        choice.choose(2, False)
        for ask in (choice.chosen, choice.offers):
            right = list(ask())
            told = ask()
            again = ask()
            told.append((4, True))
            told[0] = (7, False)
            self.assertEqual(again, right)
            self.assertEqual(ask(), right)
            again.clear()
            self.assertEqual(ask(), right)
        self.assertEqual(all_told(choice), told_by_the_words(BICYCLE, [(2, False)]))
        before = choice.chosen()
        offers = choice.offers()
        choice.choose(3, True)
        choice.take_back(2)
        self.assertEqual(before, [(2, False)])
        self.assertEqual(offers, [(1, True), (3, True), (4, False)])

    def test_choosing_changes_no_wood(self):
        given = copy.deepcopy(BICYCLE)
        choice = Choice(BICYCLE)
        for k, value in choice.offers():
            choice.choose(k, value)
            choice.take_back(k)
        self.assertEqual(BICYCLE, given)

    def test_many_deeds_against_the_words(self):
        chance = random.Random(53)
        met = {"chosen": 0, "refused": 0, "back": 0, "not back": 0}
        for wood in some_woods(53, 100, 6, 4):
            if wares_at(wood, 1, 0):
                self.check_deeds(chance, wood, met)
        self.assertGreater(min(met.values()), 40, met)

    def check_deeds(self, chance, wood, met):
        choice = Choice(wood)
        chosen = []
        for deed in range(15):
            k = chance.randint(-1, wood[0])
            value = chance.random() < 0.5
            told = told_by_the_words(wood, chosen)
            if chance.random() < 0.3:
                if k in dict(chosen):
                    choice.take_back(k)
                    chosen = [pick for pick in chosen if pick[0] != k]
                    met["back"] += 1
                else:
                    self.check_nothing_done(choice, choice.take_back, k)
                    met["not back"] += 1
            elif (k, value) in told[2]:
                choice.choose(k, value)
                chosen.append((k, value))
                met["chosen"] += 1
            else:
                self.check_nothing_done(choice, choice.choose, k, value)
                met["refused"] += 1
            self.assertEqual(all_told(choice), told_by_the_words(wood, chosen), (wood, chosen))


class EachWareTest(unittest.TestCase):
    def reach(self, wood, ware, order):
        choice = Choice(wood)
        for k in order:
            pick = (k, k in options_in(ware))
            self.assertIn(pick, choice.offers())
            choice.choose(*pick)
            self.assertEqual(choice.ware() & choice.stand()[0], choice.stand()[0])
        self.assertEqual(choice.ware(), ware)
        self.assertEqual(choice.stand(), (ware, 2 ** wood[0] - 1 - ware))
        self.assertEqual(choice.offers(), [])
        return choice

    def test_every_order_of_the_bicycle(self):
        for ware in wares_at(BICYCLE, 1, 0):
            for order in itertools.permutations(range(1, 5)):
                self.reach(BICYCLE, ware, order)

    def test_some_orders_of_other_woods_and_back(self):
        chance = random.Random(54)
        reached = 0
        for wood in some_woods(54, 60, 6, 3):
            for ware in wares_at(wood, 1, 0):
                order = chance.sample(range(1, wood[0]), wood[0] - 1)
                choice = self.reach(wood, ware, order)
                for k in chance.sample(order, len(order)):
                    choice.take_back(k)
                self.assertEqual(all_told(choice), told_by_the_words(wood, []))
                reached += 1
        self.assertGreater(reached, 90)

    def test_nine_options(self):
        chance = random.Random(55)
        wood = wood_of(9, list(NINE[1]), [("most", FIFTY, ((3, FIFTY), (7, 1))), ("needs", 8, 3)])
        sold = wares_at(wood, 1, 0)
        self.assertGreater(len(sold), 5)
        for ware in sold:
            self.reach(wood, ware, chance.sample(range(1, 9), 8))


if __name__ == "__main__":
    unittest.main()
