"""Point 3 and point 2 over the whole program."""

import copy
import itertools
import random
import unittest

from samples import (
    BICYCLE, BICYCLE_NAMES, BICYCLE_TEXT, LONE, NINE, keeping, loosened, options_in, set_of, some_woods, ties_of,
    wares_at, woven,
)
from optionwood.beside import compared, shows_within, within
from optionwood.cases import are_cases, cases, wares_in
from optionwood.choice import Choice
from optionwood.flocks import flocks
from optionwood.folds import folded, unfolded
from optionwood.prices import are_bounds, best, price_of
from optionwood.sets import options_of
from optionwood.standing import bars, least_bar, standing
from optionwood.texts import read, show_set, shown
from optionwood.wares import wares, ways
from optionwood.woods import wood_of

VOID = wood_of(3, [(0, 2, 2, (1, 2))], [("bans", 1, 2)])


def woods_to_try(seed, how_many, most_options=6):
    chance = random.Random(seed)
    given = some_woods(seed, how_many, most_options, 4)
    return given + [loosened(wood) for wood in given] + [woven(chance) for place in range(how_many // 10)]


def some_numbering(chance, wood):
    """A new number for each option, with each one still behind its up."""
    ups = {kid: up for up, low, high, kids in wood[1] for kid in kids}
    order = [0]
    while len(order) < wood[0]:
        order.append(chance.choice([k for k in ups if k not in order and ups[k] in order]))
    return [order.index(k) for k in range(wood[0])]


def numbered(wood, numbers):
    boughs = [(numbers[up], low, high, tuple(sorted(numbers[k] for k in kids))) for up, low, high, kids in wood[1]]
    cross = []
    for tie in wood[2]:
        if tie[0] == "most":
            cross.append(("most", tie[1], tuple(sorted((numbers[k], number) for k, number in tie[2]))))
        else:
            cross.append((tie[0], numbers[tie[1]], numbers[tie[2]]))
    return wood_of(wood[0], boughs, cross)


class PromiseTest(unittest.TestCase):
    def test_wares_keep_each_tie_and_there_are_no_others(self):
        for wood in woods_to_try(131, 80):
            tree = cases(wood, 1, 0)
            self.assertIs(are_cases(wood, 1, 0, tree), True)
            self.assertEqual(sorted(wares_in(1, tree)), wares(wood))
            self.assertEqual(wares(wood), wares_at(wood, 1, 0))

    def test_never_and_always_come_with_ties_of_which_none_can_be_left_out(self):
        met = {"void": 0, "never": 0, "always": 0}
        for wood in woods_to_try(132, 100):
            for k in range(wood[0]):
                told = standing(wood, k)
                if told[0] in met and told[1] is not None:
                    met[told[0]] += 1
                    yes = 1 | 2 ** k if told[0] == "never" else 1
                    self.check_bar(wood, told[1], yes, 2 ** k if told[0] == "always" else 0)
        self.assertGreater(min(met.values()), 40, met)

    def check_bar(self, wood, bar, yes, no):
        ties, tree, others = bar
        self.assertEqual(keeping(wood, ties, yes, no), [])
        self.assertIs(are_cases(wood, yes, no, tree), True)
        self.assertEqual(wares_in(yes, tree), [])
        for t, some in others:
            self.assertIn(some, keeping(wood, [u for u in ties if u != t], yes, no))

    def test_who_chooses_among_what_is_offered_comes_to_a_ware(self):
        chance = random.Random(133)
        walks = 0
        for wood in woods_to_try(133, 80):
            if wares(wood):
                for walk in range(3):
                    choice = Choice(wood)
                    while choice.offers():
                        choice.choose(*chance.choice(choice.offers()))
                        yes, no = choice.stand()
                        self.assertEqual(choice.ware(), wares_at(wood, yes, no)[0])
                    yes, no = choice.stand()
                    self.assertEqual(yes | no, 2 ** wood[0] - 1)
                    self.assertIn(yes, wares(wood))
                    walks += 1
        self.assertGreater(walks, 150)

    def test_each_ware_is_reached_in_any_order(self):
        chance = random.Random(134)
        for wood in woods_to_try(134, 60, 5):
            for ware in wares(wood):
                choice = Choice(wood)
                for k in chance.sample(range(1, wood[0]), wood[0] - 1):
                    choice.choose(k, k in options_in(ware))
                self.assertEqual(choice.ware(), ware)
                self.assertEqual(choice.offers(), [])

    def test_own_options_alone_in_any_order(self):
        for wood in (BICYCLE, loosened(BICYCLE)):
            for ware in wares(wood):
                for order in itertools.permutations(options_of(ware)[1:]):
                    choice = Choice(wood)
                    for k in order:
                        self.assertIn((k, True), choice.offers())
                        choice.choose(k, True)
                    self.assertEqual(choice.stand(), (ware, 0))

    def test_of_two_woods_it_is_told_which_sells_more(self):
        met = {"same": 0, "more": 0, "fewer": 0, "neither": 0}
        woods = [wood for wood in woods_to_try(135, 60, 4) if wood[0] > 2]
        for one, other in itertools.product(woods[::2], woods[::3]):
            if one[0] == other[0]:
                mine, theirs = set(wares(one)), set(wares(other))
                told = compared(one, other)
                met[told[0]] += 1
                self.assertEqual(told[0] in ("same", "more"), mine <= theirs)
                self.assertEqual(told[0] in ("same", "fewer"), theirs <= mine)
                if mine <= theirs:
                    self.assertIs(shows_within(one, other, told[1]), True)
                else:
                    self.assertIn(told[1] if told[0] == "neither" else told[2], mine - theirs)
        self.assertGreater(min(met.values()), 20, met)

    def test_the_best_buy_has_no_better_one(self):
        chance = random.Random(136)
        for wood in woods_to_try(136, 80):
            prices = [chance.randint(-6, 6) for k in range(wood[0])]
            told = best(wood, prices)
            if wares(wood):
                self.assertIn(told[1], wares(wood))
                self.assertEqual(told[2], min(price_of(prices, ware) for ware in wares(wood)))
                self.assertIs(are_bounds(wood, prices, told[2], told[3]), True)
                self.assertIs(are_bounds(wood, prices, told[2] + 1, told[3]), False)
            else:
                self.assertIs(are_cases(wood, 1, 0, told[1]), True)

    def test_a_folded_wood_sells_the_same(self):
        gone = 0
        for wood in woods_to_try(137, 100):
            if wares(wood):
                left, kept, tight, needed = folded(wood)
                self.assertEqual([unfolded(kept, ware) for ware in wares(left)], wares(wood))
                self.assertNotIn("never", [standing(left, k)[0] for k in range(left[0])])
                self.assertEqual(folded(left)[:2], (left, list(range(left[0]))))
                gone += left[0] < wood[0]
                if left[0] == wood[0]:
                    self.assertEqual(compared(wood, left)[0], "same")
                self.check_tight(left)
        self.assertGreater(gone, 30)

    def check_tight(self, wood):
        """Any bough made tighter, and any cross tie left out, sells otherwise."""
        many, boughs, cross = wood
        for place, (up, low, high, kids) in enumerate(boughs):
            for bounds in ((low + 1, high), (low, high - 1)):
                if bounds[0] <= bounds[1] and bounds[1] > 0:
                    changed = boughs[:place] + ((up,) + bounds + (kids,),) + boughs[place + 1:]
                    self.assertEqual(compared(wood_of(many, list(changed), list(cross)), wood)[0], "more")
        for place in range(len(cross)):
            fewer = cross[:place] + cross[place + 1:]
            self.assertEqual(compared(wood_of(many, list(boughs), list(fewer)), wood)[0], "fewer")


class NumberedOtherwiseTest(unittest.TestCase):
    def test_a_wood_numbered_otherwise(self):
        chance = random.Random(141)
        moved = 0
        for wood in woods_to_try(141, 150):
            numbers = some_numbering(chance, wood)
            other = numbered(wood, numbers)
            moved += numbers != sorted(numbers)
            self.check_alike(wood, other, numbers)
            prices = [chance.randint(-5, 5) for k in range(wood[0])]
            theirs = [prices[numbers.index(k)] for k in range(wood[0])]
            self.assertEqual(best(wood, prices)[0], best(other, theirs)[0])
            if wares(wood):
                self.assertEqual(best(wood, prices)[2], best(other, theirs)[2])
                self.check_offers(chance, wood, other, numbers)
        self.assertGreater(moved, 100)

    def check_alike(self, wood, other, numbers):
        def anew(some):
            return set_of(*[numbers[k] for k in options_in(some)])

        self.assertEqual(sorted(anew(ware) for ware in wares(wood)), wares(other))
        found = sorted(sorted(numbers[k] for k in flock) for flock in flocks(wood)[0])
        self.assertEqual(found, flocks(other)[0])
        for k in range(wood[0]):
            self.assertEqual(standing(wood, k)[0], standing(other, numbers[k])[0])
        if not wood[2]:
            self.assertEqual(ways(wood), [ways(other)[numbers[k]] for k in range(wood[0])])
            self.assertEqual(ways(wood)[0], len(wares(wood)))

    def check_offers(self, chance, wood, other, numbers):
        one = Choice(wood)
        two = Choice(other)
        while True:
            self.assertEqual(sorted((numbers[k], value) for k, value in one.offers()), two.offers())
            if not one.offers():
                break
            k, value = chance.choice(one.offers())
            one.choose(k, value)
            two.choose(numbers[k], value)


class ListsTest(unittest.TestCase):
    """Told lists are new ones each time, within others too; what is handed in stays as it was."""

    def check(self, call, *given):
        before = copy.deepcopy(given)
        right = copy.deepcopy(call(*given))
        told = call(*given)
        again = call(*given)
        spoil(told)
        self.assertEqual(again, right)
        self.assertEqual(call(*given), right)
        self.assertEqual(given, before)
        # What is done to lists that were handed in changes nothing that was told, and no later answer.
        later = copy.deepcopy(given)
        told = call(*later)
        spoil(later)
        self.assertEqual(told, right)
        self.assertEqual(call(*given), right)

    def test_functions(self):
        for wood in (BICYCLE, NINE, LONE, VOID):
            for call in (wares, flocks):
                self.check(call, wood)
            for k in range(wood[0]):
                self.check(standing, wood, k)
            self.check(least_bar, wood, 1, 0)
            self.check(bars, wood, list(range(len(ties_of(wood)))), 1, 0)
            self.check(cases, wood, 1, 0)
            self.check(within, wood, wood)
            self.check(compared, wood, wood)
            self.check(best, wood, [3, -1, 4, -1, 5, -9, 2, -6, 5][:wood[0]])
            self.check(price_of, [3, -1, 4, -1, 5, -9, 2, -6, 5][:wood[0]], 2 ** wood[0] - 1)
            self.check(are_bounds, wood, [1] * wood[0], 1, ("dear",))
            self.check(wood_of, wood[0], list(wood[1]), list(wood[2]))
            self.check(wares_in, 1, cases(wood, 1, 0))
            self.check(options_of, 2 ** wood[0] - 1)
        for wood in (BICYCLE, NINE, LONE):
            self.check(folded, wood)
        self.check(ways, NINE)
        self.check(unfolded, [0, 2, 5], 7)
        self.check(read, BICYCLE_TEXT)
        self.check(shown, list(BICYCLE_NAMES), BICYCLE)
        self.check(show_set, list(BICYCLE_NAMES), 31)

    def test_choice(self):
        choice = Choice(BICYCLE)
        choice.choose(2, False)
        for call in (choice.chosen, choice.offers, choice.stand, choice.ware):
            self.check(call)
        self.check(choice.why, 4, True)
        self.check(choice.why, 3, False)
        self.assertEqual(choice.chosen(), [(2, False)])


def spoil(told):
    """Puts every list within it otherwise."""
    if isinstance(told, (list, tuple)):
        for part in told:
            spoil(part)
    if isinstance(told, list):
        told.append("spoiled")
        told[0] = "spoiled"


if __name__ == "__main__":
    unittest.main()
