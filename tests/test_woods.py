"""Points 4 and 5: woods that are made, and their ties, ups and what is beneath."""

import copy
import itertools
import unittest

from optionwood.errors import NoWood
from optionwood.sets import options_of
from optionwood.woods import beneath, many_ties, tie_at, up_of, wood_of

FIFTY = int("7" * 50)
SIXTY = int("9" * 60)

NINE_BOUGHS = [
    (0, 1, 2, (1, 2, 5)),
    (0, 0, 1, (3,)),
    (2, 2, 2, (4, 8)),
    (3, 0, 2, (6, 7)),
]
NINE_UPS = [None, 0, 0, 0, 2, 0, 3, 3, 2]
NINE_BENEATH = [
    [0, 1, 2, 3, 4, 5, 6, 7, 8], [1], [2, 4, 8], [3, 6, 7], [4], [5], [6], [7], [8],
]
EIGHT_CROSS = [
    ("needs", 4, 1),
    ("bans", 1, 6),
    ("most", 12, ((0, 3), (4, -5), (8, 0))),
    ("needs", 0, 8),
    ("bans", 7, 0),
    ("most", -FIFTY, ((1, FIFTY), (2, -FIFTY))),
    ("most", 0, ((5, SIXTY),)),
    ("needs", 8, 7),
]


def is_tuples_within(thing):
    if isinstance(thing, tuple):
        return all(is_tuples_within(part) for part in thing)
    return type(thing) in (int, str)


def trees(many):
    # every way to give each option but 0 an up that is less
    return itertools.product(*[range(k) for k in range(1, many)])


def lone_boughs(ups):
    return [(up, 0, 1, (k,)) for k, up in enumerate(ups, start=1)]


def wide_boughs(ups):
    boughs = []
    for up in sorted(set(ups)):
        kids = tuple(k for k, other in enumerate(ups, start=1) if other == up)
        boughs.append((up, 1, len(kids), kids))
    return boughs


class MadeTest(unittest.TestCase):
    def check_made(self, many, boughs, cross):
        given = copy.deepcopy((boughs, cross))
        wood = wood_of(many, boughs, cross)
        self.assertEqual(wood, (many, tuple(given[0]), tuple(given[1])))
        self.assertTrue(is_tuples_within(wood))
        self.assertEqual((boughs, cross), given)
        return wood

    def test_one_option_alone(self):
        self.check_made(1, [], [])
        self.check_made(1, [], [("most", 0, ((0, 0),))])

    def test_two_options(self):
        self.check_made(2, [(0, 0, 1, (1,))], [])
        self.check_made(2, [(0, 1, 1, (1,))], [("needs", 0, 1), ("bans", 1, 0)])

    def test_nine_options(self):
        self.check_made(9, NINE_BOUGHS, EIGHT_CROSS)
        self.check_made(9, [(0, 8, 8, (1, 2, 3, 4, 5, 6, 7, 8))], [])
        self.check_made(9, [(k, 0, 1, (k + 1,)) for k in range(8)], [])

    def test_every_number_of_options(self):
        for many in range(1, 10):
            self.check_made(many, [(0, 0, 1, (k,)) for k in range(1, many)], [])

    def test_boughs_in_any_order(self):
        for boughs in itertools.permutations(NINE_BOUGHS):
            self.check_made(9, list(boughs), [])
        for boughs in itertools.permutations([(0, 1, 1, (1,)), (1, 1, 1, (2,)), (2, 1, 1, (3,))]):
            self.check_made(4, list(boughs), [])

    def test_every_low_and_high(self):
        for size in range(1, 9):
            kids = tuple(range(1, size + 1))
            for high in range(1, size + 1):
                for low in range(high + 1):
                    self.check_made(size + 1, [(0, low, high, kids)], [])

    def test_every_tree_of_five(self):
        for ups in trees(5):
            self.check_made(5, lone_boughs(ups), [])
            self.check_made(5, wide_boughs(ups), [])

    def test_cross_ties_of_each_kind(self):
        for a, b in itertools.permutations(range(9), 2):
            self.check_made(9, NINE_BOUGHS, [("needs", a, b), ("bans", a, b)])
        for top in (0, 1, -1, FIFTY, -FIFTY, SIXTY, -SIXTY):
            for number in (0, 1, -1, FIFTY, -FIFTY, SIXTY, -SIXTY):
                self.check_made(9, NINE_BOUGHS, [("most", top, ((0, number), (8, -number)))])
        pairs = tuple((k, k - 4) for k in range(9))
        self.check_made(9, NINE_BOUGHS, [("most", 3, pairs)])

    def test_number_of_cross_ties(self):
        for many_cross in range(9):
            self.check_made(9, NINE_BOUGHS, EIGHT_CROSS[:many_cross])
        self.check_made(9, NINE_BOUGHS, [("needs", 1, 2)] * 8)

    def test_lists_that_are_changed_later(self):
        boughs = list(NINE_BOUGHS)
        cross = list(EIGHT_CROSS)
        wood = wood_of(9, boughs, cross)
        right = (9, tuple(NINE_BOUGHS), tuple(EIGHT_CROSS))
        boughs.reverse()
        cross[0] = ("bans", 2, 3)
        self.assertEqual(wood, right)
        boughs.clear()
        cross.append(None)
        self.assertEqual(wood, right)
        self.assertEqual(many_ties(wood), 12)
        self.assertEqual(tie_at(wood, 0), NINE_BOUGHS[0])
        self.assertEqual(tie_at(wood, 4), EIGHT_CROSS[0])
        self.assertEqual(wood_of(9, list(NINE_BOUGHS), list(EIGHT_CROSS)), right)

    def test_one_list_for_both(self):
        both = []
        wood = wood_of(1, both, both)
        both.append((0, 1, 1, (1,)))
        self.assertEqual(wood, (1, (), ()))

    def test_every_single_bough_of_three_options(self):
        all_kids = [kids for size in range(4) for kids in itertools.product(range(-1, 4), repeat=size)]
        for up, low, high in itertools.product(range(-1, 4), repeat=3):
            for kids in all_kids:
                right = up == 0 and kids == (1, 2) and (low, high) in ((0, 1), (1, 1), (0, 2), (1, 2), (2, 2))
                self.check_answer(right, 3, [(up, low, high, kids)], [])

    def test_every_two_boughs_of_three_options(self):
        ups = range(-1, 4)
        some_kids = [(0,), (1,), (2,), (3,), (1, 2), (2, 1), ()]
        for one, other in itertools.product(ups, repeat=2):
            for kids, more in itertools.product(some_kids, repeat=2):
                right = (one, other, kids, more) in (
                    (0, 0, (1,), (2,)), (0, 1, (1,), (2,)), (0, 0, (2,), (1,)), (1, 0, (2,), (1,)),
                )
                self.check_answer(right, 3, [(one, 0, 1, kids), (other, 1, 1, more)], [])

    def test_every_cross_tie_of_small_numbers(self):
        boughs = [(0, 0, 2, (1, 2))]
        for a, b in itertools.product(range(-2, 6), repeat=2):
            right = a in (0, 1, 2) and b in (0, 1, 2) and a != b
            self.check_answer(right, 3, boughs, [("needs", a, b)])
            self.check_answer(right, 3, boughs, [("bans", a, b)])
        for size in range(5):
            for options in itertools.product(range(-1, 4), repeat=size):
                right = options in ((0,), (1,), (2,), (0, 1), (0, 2), (1, 2), (0, 1, 2))
                pairs = tuple((k, 5) for k in options)
                self.check_answer(right, 3, boughs, [("most", 4, pairs)])

    def check_answer(self, right, many, boughs, cross):
        if right:
            self.check_made(many, boughs, cross)
        else:
            with self.assertRaises(NoWood, msg=(many, boughs, cross)):
                wood_of(many, boughs, cross)


class ToldTest(unittest.TestCase):
    def test_every_tie_by_its_number(self):
        for boughs, cross in ((NINE_BOUGHS, EIGHT_CROSS), (NINE_BOUGHS, []), (NINE_BOUGHS, EIGHT_CROSS[:1])):
            wood = wood_of(9, list(boughs), list(cross))
            self.assertEqual(many_ties(wood), len(boughs) + len(cross))
            told = [tie_at(wood, t) for t in range(many_ties(wood))]
            self.assertEqual(told, boughs + cross)

    def test_ties_in_the_order_of_the_lists(self):
        for boughs in itertools.permutations(NINE_BOUGHS):
            wood = wood_of(9, list(boughs), EIGHT_CROSS[::-1])
            told = [tie_at(wood, t) for t in range(many_ties(wood))]
            self.assertEqual(told, list(boughs) + EIGHT_CROSS[::-1])

    def test_ties_of_one_option_alone(self):
        self.assertEqual(many_ties(wood_of(1, [], [])), 0)
        wood = wood_of(1, [], [("most", 1, ((0, 2),))])
        self.assertEqual(many_ties(wood), 1)
        self.assertEqual(tie_at(wood, 0), ("most", 1, ((0, 2),)))

    def test_ups_and_beneath_by_hand(self):
        for boughs in itertools.permutations(NINE_BOUGHS):
            wood = wood_of(9, list(boughs), list(EIGHT_CROSS))
            self.assertEqual([up_of(wood, k) for k in range(9)], NINE_UPS)
            self.assertEqual([options_of(beneath(wood, k)) for k in range(9)], NINE_BENEATH)

    def test_one_option_alone(self):
        wood = wood_of(1, [], [])
        self.assertIsNone(up_of(wood, 0))
        self.assertEqual(beneath(wood, 0), 1)

    def test_beneath_is_a_set(self):
        wood = wood_of(9, list(NINE_BOUGHS), [])
        self.assertEqual(beneath(wood, 0), 2 ** 9 - 1)
        self.assertEqual(beneath(wood, 2), 4 + 16 + 256)
        self.assertEqual(beneath(wood, 8), 256)
        for k in range(9):
            self.assertIs(type(beneath(wood, k)), int)

    def test_chain(self):
        wood = wood_of(9, [(k, 0, 1, (k + 1,)) for k in reversed(range(8))], [])
        for k in range(9):
            self.assertEqual(options_of(beneath(wood, k)), list(range(k, 9)))
            self.assertEqual(up_of(wood, k), k - 1 if k else None)

    def test_every_tree_of_six(self):
        for ups in trees(6):
            for boughs in (lone_boughs(ups), lone_boughs(ups)[::-1], wide_boughs(ups), wide_boughs(ups)[::-1]):
                self.check_tree(wood_of(6, boughs, []), (None,) + ups)

    def check_tree(self, wood, ups):
        below = [0] * 6
        for k in range(6):
            self.assertEqual(up_of(wood, k), ups[k])
            over = k
            while over is not None:
                below[over] += 2 ** k
                over = ups[over]
        self.assertEqual([beneath(wood, k) for k in range(6)], below)

    def test_asking_changes_no_wood(self):
        wood = wood_of(9, list(NINE_BOUGHS), list(EIGHT_CROSS))
        for k in range(9):
            up_of(wood, k)
            beneath(wood, k)
        for t in range(many_ties(wood)):
            tie_at(wood, t)
        self.assertEqual(wood, (9, tuple(NINE_BOUGHS), tuple(EIGHT_CROSS)))


if __name__ == "__main__":
    unittest.main()
