"""Point 16: why something is not offered, by ties and choices of which none can be left out."""

import itertools
import random
import unittest

from samples import (
    BICYCLE, LONE, check_refused, grown, is_kept, keeping, loosened, open_at, options_in, set_of, some_woods, ties_of,
    wares_at, woven,
)
from optionwood.choice import Choice
from optionwood.errors import NoOffer
from optionwood.woods import wood_of

# Two ties, and two choices that hold each other up.
SUMS = wood_of(
    6, [(0, 0, 5, (1, 2, 3, 4, 5))], [("most", 5, ((1, 2), (2, 2), (3, 2))), ("needs", 5, 3), ("bans", 5, 4)],
)
FAR_NUMBERS = (-1, -2, 6, 7, 9, 10 ** 59, -10 ** 59)


def begun(wood, *picks):
    choice = Choice(wood)
    for k, value in picks:
        choice.choose(k, value)
    return choice


def stand_with(picks):
    return set_of(0, *[k for k, value in picks if value]), set_of(*[k for k, value in picks if not value])


def why_by_the_words(wood, chosen, asked):
    def barred(ties, picks):
        return not keeping(wood, ties, *stand_with(picks + [asked]))

    if wares_at(wood, *stand_with(chosen + [asked])):
        return None
    ties = list(range(len(ties_of(wood))))
    for t in list(ties):
        if barred([u for u in ties if u != t], chosen):
            ties.remove(t)
    left = sorted(chosen)
    for pick in list(left):
        if barred(ties, [other for other in left if other != pick]):
            left.remove(pick)
    others = []
    for t in ties:
        rest = [u for u in ties if u != t]
        found = keeping(wood, rest, *stand_with(left + [asked]))
        others.append((t, [some for some in found if not is_kept(ties_of(wood)[t], some)][0]))
    for pick in left:
        rest = [other for other in left if other != pick]
        found = keeping(wood, ties, *stand_with(rest + [asked]))
        others.append((pick, [some for some in found if (pick[0] in options_in(some)) != pick[1]][0]))
    return (ties, left, grown(wood, ties, *stand_with(left + [asked])), others)


class WhyTest(unittest.TestCase):
    def test_none_of_what_is_offered(self):
        for wood in (BICYCLE, SUMS):
            choice = Choice(wood)
            for k, value in choice.offers():
                self.assertIsNone(choice.why(k, value))
        choice = begun(BICYCLE, (2, False))
        for k, value in ((1, True), (3, True), (4, False)):
            self.assertIsNone(choice.why(k, value))

    def test_refused_where_the_option_is_not_open(self):
        for picks in ([], [(5, True)], [(5, True), (4, False), (1, False)]):
            choice = begun(SUMS, *picks)
            for k in (0,) + FAR_NUMBERS + tuple(k for k, value in picks):
                for value in (True, False):
                    check_refused(self, NoOffer, choice.why, k, value)
                    self.assertEqual(choice.chosen(), picks)
        check_refused(self, NoOffer, Choice(LONE).why, 0, False)
        check_refused(self, NoOffer, Choice(LONE).why, 1, True)

    def test_open_again_behind_taking_back(self):
        choice = begun(BICYCLE, (4, True))
        check_refused(self, NoOffer, choice.why, 4, True)
        choice.take_back(4)
        self.assertIsNone(choice.why(4, True))

    def test_a_tie_alone(self):
        right = ([0], [], ("broken", 0), [(0, 1)])
        self.assertEqual(Choice(BICYCLE).why(1, False), right)
        self.assertEqual(begun(BICYCLE, (3, False)).why(1, False), right)

    def test_a_tie_that_bars_alone_is_left_out_where_later_ones_bar_with_a_choice(self):
        tree = ("split", 2, ("broken", 1), ("broken", 3))
        others = [(1, set_of(0, 2, 4)), (3, set_of(0, 4)), ((4, True), 1)]
        self.assertEqual(begun(BICYCLE, (4, True), (3, False)).why(1, False), ([1, 3], [(4, True)], tree, others))

    def test_a_tie_and_a_choice(self):
        choice = begun(BICYCLE, (2, False))
        right = ([3], [(2, False)], ("broken", 3), [(3, set_of(0, 4)), ((2, False), set_of(0, 2, 4))])
        self.assertEqual(choice.why(4, True), right)
        choice = begun(BICYCLE, (4, True))
        right = ([3], [(4, True)], ("broken", 3), [(3, set_of(0, 4)), ((4, True), 1)])
        self.assertEqual(choice.why(2, False), right)

    def test_several_ties_and_choices(self):
        choice = begun(SUMS, (2, True), (4, False), (1, True))
        # 5 needs 3, and with 1, 2 and 3 the numbers come to 6.
        tree = ("split", 3, ("broken", 1), ("broken", 2))
        others = [
            (1, set_of(0, 1, 2, 3, 5)), (2, set_of(0, 1, 2, 5)),
            ((1, True), set_of(0, 2, 3, 5)), ((2, True), set_of(0, 1, 3, 5)),
        ]
        self.assertEqual(choice.why(5, True), ([1, 2], [(1, True), (2, True)], tree, others))
        self.assertEqual(choice.chosen(), [(2, True), (4, False), (1, True)])

    def test_choices_are_left_out_from_the_least_option_on(self):
        # Any one of 1, 2 and 3 bars 4: what stays is the last by option, whatever was chosen first.
        wood = wood_of(
            5, [(0, 0, 4, (1, 2, 3, 4))], [("most", 1, ((1, 1), (2, 1), (3, 1), (4, 1))), ("most", 9, ((4, 1),))],
        )
        self.assertEqual(begun(wood, (2, True)).why(4, True)[:2], ([1], [(2, True)]))
        wood = wood_of(5, [(0, 0, 4, (1, 2, 3, 4))], [("most", 3, ((1, 1), (2, 1), (3, 1), (4, 3)))])
        for order in itertools.permutations([(1, True), (2, True), (3, True)]):
            told = begun(wood, *order).why(4, True)
            others = [(1, set_of(0, 3, 4)), ((3, True), set_of(0, 4))]
            self.assertEqual(told, ([1], [(3, True)], ("broken", 1), others))

    def test_ties_are_left_out_from_the_first_on_and_ahead_of_choices(self):
        # The tie that bars 2 by itself is left out first, so a choice stays with the other one.
        wood = wood_of(3, [(0, 0, 2, (1, 2))], [("bans", 0, 2), ("bans", 1, 2)])
        right = ([2], [(1, True)], ("broken", 2), [(2, 7), ((1, True), 5)])
        self.assertEqual(begun(wood, (1, True)).why(2, True), right)
        wood = wood_of(3, [(0, 0, 2, (1, 2))], [("bans", 1, 2), ("bans", 0, 2)])
        self.assertEqual(begun(wood, (1, True)).why(2, True), ([2], [], ("broken", 2), [(2, 5)]))

    def test_what_is_chosen_stays_as_it_was(self):
        picks = [(2, True), (4, False), (1, True)]
        choice = begun(SUMS, *picks)
        before = (choice.stand(), choice.offers(), choice.ware())
        for k, value in itertools.product((3, 5), (True, False)):
            choice.why(k, value)
            self.assertEqual(choice.chosen(), picks)
            self.assertEqual((choice.stand(), choice.offers(), choice.ware()), before)

    def test_told_lists_are_the_askers_own(self):
        choice = begun(SUMS, (2, True), (4, False), (1, True))
        right = why_by_the_words(SUMS, choice.chosen(), (5, True))
        told = choice.why(5, True)
        again = choice.why(5, True)
        for part in (told[0], told[1], told[3]):
            part.append(77)
            part[0] = None
        self.assertEqual(again, right)
        self.assertEqual(choice.why(5, True), right)
        self.assertEqual(choice.chosen(), [(2, True), (4, False), (1, True)])

    def test_woods_against_the_words(self):
        chance = random.Random(61)
        seen = {}
        for place in range(250):
            self.check_wood(chance, woven(chance), seen)
        for given in some_woods(61, 500, 6, 5):
            for wood in (given, loosened(given)):
                if wood[0] > 2 and wares_at(wood, 1, 0):
                    self.check_wood(chance, wood, seen)
        for sizes in ((1, 0), (1, 1), (1, 2), (2, 0), (2, 1), (2, 2), (3, 0), (3, 1)):
            self.assertGreater(seen.get(sizes, 0), 2, (sizes, seen))
        self.assertGreater(seen.get("left out", 0), 40)

    def check_wood(self, chance, wood, seen):
        choice = Choice(wood)
        for step in range(chance.randint(0, wood[0] - 1)):
            if choice.offers():
                choice.choose(*chance.choice(choice.offers()))
        chosen = choice.chosen()
        for k, value in itertools.product(open_at(wood, *choice.stand()), (False, True)):
            told = choice.why(k, value)
            self.assertEqual(told, why_by_the_words(wood, chosen, (k, value)), (wood, chosen, k, value))
            self.assertEqual(told is None, (k, value) in choice.offers())
            if told is not None:
                self.assertEqual([type(part) for part in told], [list, list, tuple, list])
                self.assertNotIn("ware", str(told[2]))
                sizes = (len(told[0]), len(told[1]))
                seen[sizes] = seen.get(sizes, 0) + 1
                seen["left out"] = seen.get("left out", 0) + (0 < len(told[1]) < len(chosen))
        self.assertEqual(choice.chosen(), chosen)


if __name__ == "__main__":
    unittest.main()
