"""Points 19 and 20: prices, the best buy, and trees of bounds, told and looked at."""

import copy
import random
import unittest

from samples import (
    BICYCLE, LONE, NINE, changed, grown, is_right_tree, is_right_ware_leaf, open_at, options_in, set_of, some_woods,
    ties_of, wares_at,
)
from optionwood.cases import cases
from optionwood.prices import are_bounds, best, price_of
from optionwood.woods import wood_of

DEAR = ("dear",)
WARE = ("ware",)
SIXTY = int("8" * 60)
FREE = wood_of(3, [(0, 0, 2, (1, 2))], [])
VOID = wood_of(3, [(0, 2, 2, (1, 2))], [("bans", 1, 2)])
FAR_NUMBERS = (-1, -2, -3, 3, 4, 9, 10 ** 59, -10 ** 59)


def sum_of(prices, some):
    return sum(prices[k] for k in options_in(some))


def least_at(wood, prices, yes, no):
    """The price of yes and the prices below 0 of all open options."""
    return sum_of(prices, yes) + sum(min(prices[k], 0) for k in open_at(wood, yes, no))


def bounds_tree(wood, prices, price, pick=min, step=1):
    def leaf_at(wood, yes, no):
        return DEAR if least_at(wood, prices, yes, no) >= price else None

    return grown(wood, range(len(ties_of(wood)))[::step], 1, 0, pick, leaf_at)


def is_bounds_tree(wood, prices, price, tree):
    def is_leaf(wood, leaf, yes, no):
        if leaf == DEAR:
            return least_at(wood, prices, yes, no) >= price
        return is_right_ware_leaf(wood, leaf, yes, no) and sum_of(prices, yes) >= price

    return is_right_tree(wood, 1, 0, tree, is_leaf)


def best_by_the_words(wood, prices):
    sold = wares_at(wood, 1, 0)
    if not sold:
        return ("none", grown(wood, range(len(ties_of(wood))), 1, 0))
    price = min(sum_of(prices, ware) for ware in sold)
    first = [ware for ware in sold if sum_of(prices, ware) == price][0]
    return ("best", first, price, bounds_tree(wood, prices, price))


def some_prices(chance, many):
    scale = chance.choice((1, 1, 1, SIXTY // 9))
    spread = chance.choice((0, 1, 5))
    return [scale * chance.randint(-spread, spread) for k in range(many)]


class PriceOfTest(unittest.TestCase):
    def test_sums(self):
        prices = [3, -4, 0, 50, -SIXTY]
        self.assertEqual(price_of(prices, 0), 0)
        self.assertEqual(price_of(prices, 1), 3)
        self.assertEqual(price_of(prices, set_of(1)), -4)
        self.assertEqual(price_of(prices, set_of(0, 1, 3)), 49)
        self.assertEqual(price_of(prices, set_of(4)), -SIXTY)
        self.assertEqual(price_of(prices, set_of(0, 1, 2, 3, 4)), 49 - SIXTY)
        self.assertEqual(price_of([SIXTY] * 9, 511), 9 * SIXTY)

    def test_every_set(self):
        chance = random.Random(81)
        for many in range(1, 8):
            prices = some_prices(chance, many)
            for some in range(2 ** many):
                self.assertEqual(price_of(prices, some), sum_of(prices, some))


class BestTest(unittest.TestCase):
    def test_by_hand(self):
        self.assertEqual(best(FREE, [5, 1, 2]), ("best", 1, 5, DEAR))
        self.assertEqual(best(FREE, [5, -1, 2]), ("best", 3, 4, DEAR))
        self.assertEqual(best(FREE, [-5, -1, -2]), ("best", 7, -8, DEAR))
        tree = ("split", 1, ("split", 2, DEAR, ("broken", 1)), ("split", 2, DEAR, ("broken", 0)))
        told = best(wood_of(3, [(0, 1, 2, (1, 2))], [("most", 0, ((1, 1), (2, -1)))]), [0, -2, 3])
        self.assertEqual(told, ("best", 7, 1, tree))
        tree = ("split", 1, ("split", 2, DEAR, ("broken", 1)), DEAR)
        told = best(wood_of(3, [(0, 0, 1, (1,)), (0, 1, 1, (2,))], []), [0, -7, 4])
        self.assertEqual(told, ("best", 7, -3, tree))
        told = best(wood_of(3, [(0, 0, 2, (1, 2))], [("needs", 0, 2)]), [0, 0, 0])
        self.assertEqual(told, ("best", 5, 0, DEAR))

    def test_broken_ahead_of_dear(self):
        wood = wood_of(2, [(0, 0, 1, (1,))], [("bans", 0, 1)])
        self.assertEqual(best(wood, [4, -9]), ("best", 1, 4, ("split", 1, ("broken", 1), DEAR)))
        self.assertEqual(best(wood, [4, 9]), ("best", 1, 4, DEAR))

    def test_of_several_as_cheap_the_first(self):
        self.assertEqual(best(FREE, [0, 0, 0])[:3], ("best", 1, 0))
        self.assertEqual(best(wood_of(3, [(0, 1, 1, (1, 2))], []), [1, -3, -3])[:3], ("best", 3, -2))
        self.assertEqual(best(BICYCLE, [0, 0, 2, 1, -1])[:3], ("best", set_of(0, 1, 3), 1))

    def test_void(self):
        tree = ("split", 1, ("split", 2, ("broken", 1), ("broken", 0)), ("broken", 0))
        for prices in ([0, 0, 0], [1, -2, SIXTY]):
            self.assertEqual(best(VOID, prices), ("none", tree))
        self.assertEqual(best(wood_of(1, [], [("most", -1, ((0, 0),))]), [7]), ("none", ("broken", 0)))

    def test_one_option(self):
        for price in (0, 1, -1, SIXTY, -SIXTY):
            self.assertEqual(best(LONE, [price]), ("best", 1, price, DEAR))

    def test_woods_against_the_words(self):
        chance = random.Random(82)
        met = {"best": 0, "none": 0}
        for wood in some_woods(82, 250, 6, 5):
            prices = some_prices(chance, wood[0])
            given = list(prices)
            told = best(wood, prices)
            self.assertEqual(told, best_by_the_words(wood, prices), (wood, prices))
            self.assertIs(type(told), tuple)
            self.assertEqual(prices, given)
            met[told[0]] += 1
            if told[0] == "best":
                self.assertNotIn("ware", str(told[3]))
                self.assertIs(are_bounds(wood, prices, told[2], told[3]), True)
        self.assertGreater(min(met.values()), 60, met)

    def test_nine_options(self):
        chance = random.Random(83)
        for wood in [NINE] + [wood for wood in some_woods(83, 45, 9, 3) if wood[0] == 9]:
            prices = some_prices(chance, 9)
            self.assertEqual(best(wood, prices), best_by_the_words(wood, prices))

    def test_prices_changed_behind_it_change_nothing(self):
        prices = [1, -2, 3]
        told = best(FREE, prices)
        prices[1] = 50
        prices.append(7)
        self.assertEqual(told, ("best", 3, -1, DEAR))
        self.assertEqual(best(FREE, [1, -2, 3]), told)

    def test_asking_changes_no_wood(self):
        given = copy.deepcopy((BICYCLE, VOID))
        for wood in (BICYCLE, VOID):
            best(wood, [3, -1, 4, -1, 5][:wood[0]])
            are_bounds(wood, [3, -1, 4, -1, 5][:wood[0]], 2, DEAR)
        self.assertEqual((BICYCLE, VOID), given)


class BoundsTest(unittest.TestCase):
    PRICES = [1, -4, 6]
    NEEDS = wood_of(3, [(0, 0, 2, (1, 2))], [("needs", 1, 2)])

    def check(self, right, tree, price=1, wood=NEEDS, prices=None):
        self.assertIs(are_bounds(wood, prices or self.PRICES, price, tree), right, (tree, price))

    def test_told_tree_and_a_price_too_high_by_one(self):
        tree = ("split", 1, ("split", 2, DEAR, ("broken", 1)), DEAR)
        self.assertEqual(best(self.NEEDS, self.PRICES), ("best", 1, 1, tree))
        for price in (1, 0, -1, -SIXTY):
            self.check(True, tree, price)
        for price in (2, 3, SIXTY):
            self.check(False, tree, price)

    def test_splits_in_another_order(self):
        self.check(True, ("split", 2, DEAR, ("split", 1, ("broken", 1), DEAR)))
        self.check(False, ("split", 2, DEAR, ("split", 1, ("broken", 1), DEAR)), 2)
        self.check(True, ("split", 2, ("split", 1, DEAR, DEAR), ("split", 1, ("broken", 1), DEAR)))

    def test_dear_leaf_counts_prices_below_0_of_all_open_options(self):
        self.check(True, DEAR, -3)
        self.check(False, DEAR, -2)
        self.check(True, DEAR, -8, FREE, [2, -4, -6])
        self.check(False, DEAR, -7, FREE, [2, -4, -6])
        self.check(True, ("split", 1, DEAR, DEAR), -8, FREE, [2, -4, -6])
        self.check(False, ("split", 1, DEAR, DEAR), -7, FREE, [2, -4, -6])
        self.check(True, ("split", 1, ("split", 2, DEAR, DEAR), DEAR), -8, FREE, [2, -4, -6])

    def test_dear_leaf_does_not_count_what_is_in_no(self):
        wood = wood_of(2, [(0, 0, 1, (1,))], [])
        self.check(True, ("split", 1, DEAR, DEAR), -5, wood, [0, -5])
        self.check(False, ("split", 1, DEAR, DEAR), -4, wood, [0, -5])
        banned = wood_of(2, [(0, 0, 1, (1,))], [("bans", 0, 1)])
        self.check(True, ("split", 1, ("broken", 1), DEAR), 0, banned, [0, -5])

    def test_ware_leaves(self):
        tree = ("split", 1, ("split", 2, WARE, ("broken", 1)), ("split", 2, WARE, WARE))
        self.assertEqual(cases(self.NEEDS, 1, 0), tree)
        for price in (1, 0, -50):
            self.check(True, tree, price)
        self.check(False, tree, 2)
        mixed = ("split", 1, ("split", 2, WARE, ("broken", 1)), DEAR)
        self.check(True, mixed)
        self.check(False, mixed, 2)

    def test_ware_leaf_of_a_ware_below_the_price(self):
        self.check(True, WARE, 7, LONE, [7])
        self.check(False, WARE, 8, LONE, [7])
        self.check(True, ("split", 1, WARE, WARE), -2, wood_of(2, [(0, 0, 1, (1,))], []), [1, -3])
        self.check(False, ("split", 1, WARE, WARE), -1, wood_of(2, [(0, 0, 1, (1,))], []), [1, -3])

    def test_ware_leaf_that_is_none(self):
        self.check(False, WARE, -SIXTY)
        self.check(False, ("split", 1, WARE, DEAR), -SIXTY)
        self.check(False, ("split", 1, ("split", 2, WARE, WARE), DEAR), -SIXTY)
        self.check(True, ("split", 1, ("split", 2, WARE, ("broken", 1)), DEAR), -SIXTY)
        self.check(False, WARE, -SIXTY, wood_of(1, [], [("most", -1, ((0, 0),))]), [1])

    def test_branches_that_are_exchanged(self):
        self.check(False, ("split", 1, DEAR, ("split", 2, DEAR, ("broken", 1))))
        self.check(False, ("split", 1, ("split", 2, ("broken", 1), DEAR), DEAR))

    def test_split_on_what_is_not_open_or_no_option(self):
        for k in (0,) + FAR_NUMBERS:
            self.check(False, ("split", k, DEAR, DEAR), -SIXTY)
            self.check(False, ("split", 1, ("split", k, DEAR, DEAR), DEAR), -SIXTY)
            self.check(False, ("split", 1, DEAR, ("split", k, DEAR, DEAR)), -SIXTY)
        self.check(True, ("split", 1, ("split", 2, DEAR, DEAR), DEAR), -SIXTY)
        self.check(False, ("split", 1, ("split", 1, DEAR, DEAR), DEAR), -SIXTY)

    def test_tie_that_is_not_broken_for_sure_or_none(self):
        for t in (0, 1, 2) + FAR_NUMBERS:
            self.check(False, ("broken", t), -SIXTY)
            self.check(t == 1, ("split", 1, ("split", 2, DEAR, ("broken", t)), DEAR))

    def test_void(self):
        tree = cases(VOID, 1, 0)
        for price in (0, 5, SIXTY):
            self.check(True, tree, price, VOID, [0, 0, 0])
        self.check(False, DEAR, 1, VOID, [0, 0, 0])
        self.check(True, DEAR, 0, VOID, [0, 0, 0])

    def test_sixty_figures(self):
        prices = [SIXTY, -SIXTY, 1]
        self.check(True, DEAR, 0, FREE, prices)
        self.check(False, DEAR, 1, FREE, prices)

    def test_deep_trees(self):
        tree = DEAR
        for depth in range(20):
            tree = ("split", 1 + depth % 2, tree, DEAR)
        self.check(False, tree, -SIXTY)

    def test_trees_in_any_order(self):
        chance = random.Random(84)
        seen = 0
        for wood in some_woods(84, 150, 5, 4):
            prices = some_prices(chance, wood[0])
            sold = [sum_of(prices, ware) for ware in wares_at(wood, 1, 0)]
            if sold:
                seen += 1
                for pick in (max, chance.choice):
                    tree = bounds_tree(wood, prices, min(sold), pick, -1)
                    self.check(True, tree, min(sold), wood, prices)
                    self.check(False, tree, min(sold) + 1, wood, prices)
                    self.check(True, cases(wood, 1, 0), min(sold), wood, prices)
                    self.check(False, cases(wood, 1, 0), min(sold) + 1, wood, prices)
        self.assertGreater(seen, 60)

    def test_trees_with_one_thing_changed(self):
        chance = random.Random(85)
        met = {True: 0, False: 0}
        for wood in some_woods(85, 120, 4, 4):
            prices = some_prices(chance, wood[0])
            for trial in range(15):
                price = best_by_the_words(wood, prices)[2] if wares_at(wood, 1, 0) else 0
                told = bounds_tree(wood, prices, price, chance.choice) if trial % 2 else cases(wood, 1, 0)
                tree = changed(chance, told, (WARE, DEAR))
                price += chance.choice((0, 0, 0, -1, 1))
                right = is_bounds_tree(wood, prices, price, tree)
                met[right] += 1
                self.check(right, tree, price, wood, prices)
        self.assertGreater(min(met.values()), 100, met)


if __name__ == "__main__":
    unittest.main()
