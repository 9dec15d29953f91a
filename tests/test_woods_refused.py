"""Point 4: what tells no wood is refused with NoWood, one fault at a time."""

import unittest

from optionwood import errors
from optionwood.woods import wood_of

HUGE = 10 ** 5000

GOOD_BOUGHS = [(0, 1, 1, (1, 2)), (1, 0, 2, (3, 4)), (0, 1, 1, (5,))]
GOOD_CROSS = [("needs", 1, 2), ("bans", 3, 0), ("most", 1, ((0, 1), (1, -4), (5, 0)))]
OTHERS = (
    errors.NoCount, errors.NoWares, errors.NoOffer, errors.Unlike, errors.NoText, errors.NoRow, errors.NoName,
)


class Thorn:
    """Whatever is done with it beyond asking its kind is an error."""

    def hurt(self, *others):
        raise RuntimeError("touched")

    __eq__ = __ne__ = __lt__ = __le__ = __gt__ = __ge__ = __hash__ = hurt
    __len__ = __iter__ = __getitem__ = __contains__ = __bool__ = __index__ = __int__ = hurt
    __repr__ = __str__ = __add__ = __radd__ = __sub__ = __and__ = __rshift__ = hurt


def loop():
    around = []
    around.append(around)
    return around


NO_NUMBERS = (
    None, True, False, "1", "", [1], [], (1,), (), {}, {1: 1}, {1}, b"1", len, int, object(), Thorn(), loop(),
)
NO_TUPLES = (
    None, True, 0, 4, "", "ab", "abc", "abcd", [], {}, set(), frozenset((1, 2)), b"abcd", range(1, 3),
    {1: 1, 2: 2}, iter((1, 2)), tuple, object(), Thorn(), loop(),
)
NO_LISTS = (
    None, True, 0, "", "abc", (), {}, set(), frozenset(), b"", range(0), iter([]), list, object(), Thorn(),
    tuple(GOOD_BOUGHS), dict(enumerate(GOOD_BOUGHS)), tuple(GOOD_CROSS), dict(enumerate(GOOD_CROSS)),
)
NO_WORDS = (
    "", "need", "needs ", "Needs", "NEEDS", "ban", "bans\n", "MOST", "mostly", "may", "must", b"needs", None, 0, 1,
    True, ["needs"], ("needs",), {"needs": 1}, {"needs"}, object(), Thorn(), loop(),
)
NO_OPTIONS = NO_NUMBERS + (-1, 6, 7, 9, -HUGE, HUGE, 10 ** 59)


def with_part(whole, place, part):
    return whole[:place] + (part,) + whole[place + 1:]


class RefusedTest(unittest.TestCase):
    def check_refused(self, many, boughs, cross):
        with self.assertRaises(errors.NoWood) as caught:
            wood_of(many, boughs, cross)
        self.assertIsInstance(caught.exception, errors.WoodError)
        self.assertIsInstance(caught.exception, ValueError)
        self.assertNotIsInstance(caught.exception, OTHERS)
        self.assertIs(type(str(caught.exception)), str)
        self.check_good()

    def check_good(self):
        wood = wood_of(6, list(GOOD_BOUGHS), list(GOOD_CROSS))
        self.assertEqual(wood, (6, tuple(GOOD_BOUGHS), tuple(GOOD_CROSS)))

    def check_bough(self, place, bough):
        boughs = list(GOOD_BOUGHS)
        boughs[place] = bough
        self.check_refused(6, boughs, list(GOOD_CROSS))
        self.assertEqual(len(boughs), 3)
        self.assertIs(boughs[place], bough)

    def check_cross_tie(self, tie):
        for place in range(4):
            cross = list(GOOD_CROSS)
            cross.insert(place, tie)
            self.check_refused(6, list(GOOD_BOUGHS), cross)
            self.assertEqual(len(cross), 4)
            self.assertIs(cross[place], tie)

    def check_bough_part(self, part_place, parts):
        for place, bough in enumerate(GOOD_BOUGHS):
            for part in parts:
                self.check_bough(place, with_part(bough, part_place, part))

    def check_tie_part(self, tie, part_place, parts):
        for part in parts:
            self.check_cross_tie(with_part(tie, part_place, part))

    def test_caught_by_each_name_it_has(self):
        for kind in (errors.NoWood, errors.WoodError, ValueError):
            with self.assertRaises(kind):
                wood_of(0, [], [])

    # the number

    def test_number_out_of_range(self):
        for many in (0, -1, -9, -HUGE):
            self.check_refused(many, [], [])
        for many in (10, 11, 20):
            self.check_refused(many, [(0, 0, 1, (k,)) for k in range(1, many)], [])
        self.check_refused(HUGE, [], [])
        self.check_refused(10 ** 59, [], [])

    def test_number_of_another_kind(self):
        for many in NO_NUMBERS:
            self.check_refused(many, [], [])
        self.check_refused("6", list(GOOD_BOUGHS), [])

    def test_number_other_than_the_boughs_tell(self):
        for many in (1, 2, 3, 4, 5, 7, 8, 9):
            self.check_refused(many, list(GOOD_BOUGHS), [])
        for many in range(2, 10):
            self.check_refused(many, [], [])

    # the lists

    def test_boughs_that_are_no_list(self):
        for boughs in NO_LISTS:
            self.check_refused(6, boughs, list(GOOD_CROSS))
            self.check_refused(1, boughs, [])

    def test_cross_ties_that_are_no_list(self):
        for cross in NO_LISTS:
            self.check_refused(6, list(GOOD_BOUGHS), cross)
            self.check_refused(1, [], cross)

    def test_all_of_another_kind(self):
        self.check_refused(None, None, None)
        self.check_refused(Thorn(), Thorn(), Thorn())
        self.check_refused([], 1, {})

    # boughs

    def test_bough_of_another_kind(self):
        for place, bough in enumerate(GOOD_BOUGHS):
            self.check_bough(place, list(bough))
            self.check_bough(place, dict(enumerate(bough)))
            for thing in NO_TUPLES:
                self.check_bough(place, thing)
        for thing in NO_TUPLES:
            self.check_refused(1, [thing], [])

    def test_bough_too_short_or_too_long(self):
        for place, bough in enumerate(GOOD_BOUGHS):
            for short in ((), bough[:1], bough[:2], bough[:3], bough[1:], bough[:2] + bough[3:]):
                self.check_bough(place, short)
            for long in (bough + (None,), bough + (1,), bough + bough, (0,) + bough, bough + ((),)):
                self.check_bough(place, long)
            self.check_bough(place, (bough,))

    def test_cross_tie_for_a_bough(self):
        for tie in GOOD_CROSS:
            self.check_bough(2, tie)
            self.check_refused(6, GOOD_BOUGHS + [tie], [])

    def test_up_that_is_none(self):
        self.check_bough_part(0, NO_OPTIONS)

    def test_up_not_less_than_the_kids(self):
        for up in (1, 2, 3, 4, 5):
            self.check_bough(0, (up, 1, 1, (1, 2)))
        for up in (3, 4, 5):
            self.check_bough(1, (up, 0, 2, (3, 4)))
        self.check_bough(2, (5, 1, 1, (5,)))
        self.check_refused(2, [(1, 0, 1, (1,))], [])
        self.check_refused(3, [(2, 0, 1, (1,)), (1, 0, 1, (2,))], [])

    def test_low_that_is_none(self):
        self.check_bough_part(1, NO_NUMBERS + (-1, -2, -HUGE, HUGE))

    def test_low_above_high(self):
        self.check_bough(0, (0, 2, 1, (1, 2)))
        self.check_bough(0, (0, 3, 2, (1, 2)))
        self.check_bough(1, (1, 3, 2, (3, 4)))
        self.check_bough(2, (0, 2, 1, (5,)))

    def test_high_that_is_none(self):
        self.check_bough_part(2, NO_NUMBERS + (0, -1, 3, 9, -HUGE, HUGE))
        self.check_bough(1, (1, 0, 0, (3, 4)))
        self.check_bough(2, (0, 0, 0, (5,)))
        self.check_bough(2, (0, 1, 2, (5,)))

    def test_truths_that_are_worth_the_number_due(self):
        for bough in ((False, 1, 1, (1, 2)), (0, True, 1, (1, 2)), (0, 1, True, (1, 2)), (0, 1, 1, (True, 2))):
            self.check_bough(0, bough)
        for bough in ((True, 0, 2, (3, 4)), (1, False, 2, (3, 4))):
            self.check_bough(1, bough)
        self.check_refused(True, [], [])
        self.check_refused(2, [(0, 0, 1, (True,))], [])

    def test_kids_of_another_kind(self):
        self.check_bough_part(3, NO_TUPLES)
        for place, bough in enumerate(GOOD_BOUGHS):
            self.check_bough(place, with_part(bough, 3, list(bough[3])))
            self.check_bough(place, with_part(bough, 3, {k: True for k in bough[3]}))
            self.check_bough(place, with_part(bough, 3, bough[3][0]))
            self.check_bough(place, with_part(bough, 3, (bough[3],)))

    def test_no_kids(self):
        self.check_bough(2, (0, 1, 1, ()))
        self.check_bough(2, (0, 0, 0, ()))
        self.check_refused(6, GOOD_BOUGHS + [(0, 0, 1, ())], [])
        self.check_refused(6, GOOD_BOUGHS + [(0, 0, 0, ())], [])
        self.check_refused(1, [(0, 0, 0, ())], [])
        self.check_refused(1, [(0, 0, 1, ())], [])

    def test_kid_that_is_none(self):
        for kid in NO_OPTIONS + (0,):
            self.check_bough(0, (0, 1, 1, (kid, 2)))
            self.check_bough(0, (0, 1, 1, (1, kid)))
            self.check_bough(0, (0, 1, 1, (1, 2, kid)))
            self.check_bough(2, (0, 1, 1, (kid,)))
        self.check_refused(1, [(0, 0, 1, (1,))], [])
        self.check_refused(1, [(0, 0, 1, (0,))], [])
        self.check_refused(9, [(0, 0, 1, (1, 2, 3, 4, 5, 6, 7, 9))], [])
        self.check_refused(9, [(0, 0, 1, (1, 2, 3, 4, 5, 6, 7, 8, 9))], [])

    def test_kids_out_of_order_or_told_twice(self):
        self.check_bough(0, (0, 1, 1, (2, 1)))
        self.check_bough(1, (1, 0, 2, (4, 3)))
        self.check_bough(0, (0, 1, 1, (1, 1, 2)))
        self.check_bough(0, (0, 1, 1, (1, 2, 2)))
        self.check_bough(0, (0, 1, 1, (1, 2, 1)))
        self.check_bough(2, (0, 1, 1, (5, 5)))
        self.check_refused(4, [(0, 0, 3, (1, 3, 2))], [])

    def test_option_in_no_bough(self):
        for place in range(3):
            self.check_refused(6, GOOD_BOUGHS[:place] + GOOD_BOUGHS[place + 1:], [])
        self.check_bough(0, (0, 1, 1, (1,)))
        self.check_bough(0, (0, 1, 1, (2,)))
        self.check_bough(1, (1, 0, 1, (3,)))
        self.check_bough(1, (1, 0, 1, (4,)))

    def test_option_in_two_boughs(self):
        for bough in GOOD_BOUGHS:
            self.check_refused(6, GOOD_BOUGHS + [bough], [])
        for k in range(1, 6):
            self.check_refused(6, GOOD_BOUGHS + [(0, 0, 1, (k,))], [])
            self.check_refused(6, [(0, 0, 1, (k,))] + GOOD_BOUGHS, [])
        self.check_bough(2, (0, 1, 1, (4, 5)))
        self.check_bough(2, (0, 1, 1, (4,)))

    # cross ties

    def test_cross_tie_of_another_kind(self):
        for tie in GOOD_CROSS:
            self.check_cross_tie(list(tie))
            self.check_cross_tie(dict(enumerate(tie)))
        for thing in NO_TUPLES:
            self.check_cross_tie(thing)
            self.check_refused(1, [], [thing])

    def test_bough_for_a_cross_tie(self):
        for bough in GOOD_BOUGHS:
            self.check_cross_tie(bough)

    def test_cross_tie_too_short_or_too_long(self):
        for tie in GOOD_CROSS:
            for short in ((), tie[:1], tie[:2], tie[1:], tie[:1] + tie[2:]):
                self.check_cross_tie(short)
            for long in (tie + (None,), tie + (1,), tie + ((),), tie + tie, (tie[0],) + tie):
                self.check_cross_tie(long)
            self.check_cross_tie((tie,))

    def test_word_that_is_none(self):
        for tie in GOOD_CROSS:
            self.check_tie_part(tie, 0, NO_WORDS)
        for word in ("needs", "bans"):
            self.check_cross_tie((word,) + GOOD_CROSS[2][1:])
        self.check_cross_tie(("most", 1, 2))

    def test_option_of_needs_or_bans_that_is_none(self):
        for tie in GOOD_CROSS[:2]:
            self.check_tie_part(tie, 1, NO_OPTIONS)
            self.check_tie_part(tie, 2, NO_OPTIONS)

    def test_truths_for_options(self):
        for word in ("needs", "bans"):
            for tie in ((word, True, 2), (word, 2, True), (word, False, 2), (word, 2, False), (word, 0, True)):
                self.check_cross_tie(tie)

    def test_options_alike(self):
        for word in ("needs", "bans"):
            for k in range(6):
                self.check_cross_tie((word, k, k))
            self.check_refused(1, [], [(word, 0, 0)])

    def test_top_that_is_none(self):
        self.check_tie_part(GOOD_CROSS[2], 1, NO_NUMBERS)

    def test_pairs_of_another_kind(self):
        pairs = GOOD_CROSS[2][2]
        self.check_tie_part(GOOD_CROSS[2], 2, NO_TUPLES + (list(pairs), dict(pairs), pairs[0], (pairs,)))

    def test_no_pairs(self):
        self.check_cross_tie(("most", 1, ()))
        self.check_refused(1, [], [("most", 0, ())])

    def test_pair_that_is_none(self):
        for thing in NO_TUPLES + ([3, 5], {3: 5, 4: 1}, "35", (), (3,), (3, 5, 5), (3, 5, None), ((3, 5),)):
            for pairs in ((thing,), (thing, (4, 1)), ((0, 1), thing), ((0, 1), thing, (4, 1))):
                self.check_cross_tie(("most", 1, pairs))

    def test_option_of_a_pair_that_is_none(self):
        for k in NO_OPTIONS:
            for pairs in (((k, 5),), ((k, 5), (2, 1)), ((0, 1), (k, 5)), ((0, 1), (k, 5), (4, 1))):
                self.check_cross_tie(("most", 1, pairs))

    def test_number_of_a_pair_that_is_none(self):
        for number in NO_NUMBERS:
            for pairs in (((3, number),), ((3, number), (4, 1)), ((0, 1), (3, number)), ((0, 1), (3, number), (4, 1))):
                self.check_cross_tie(("most", 1, pairs))

    def test_pairs_out_of_order_or_told_twice(self):
        for pairs in (
            ((1, 5), (0, 5)), ((0, 5), (2, 5), (1, 5)), ((5, 5), (4, 5), (3, 5)),
            ((1, 5), (1, 5)), ((1, 5), (1, 6)), ((0, 5), (1, 5), (0, 5)), ((0, 5), (4, 5), (4, 7)),
        ):
            self.check_cross_tie(("most", 1, pairs))

    def test_nine_cross_ties(self):
        for tie in GOOD_CROSS:
            wood_of(6, list(GOOD_BOUGHS), [tie] * 8)
            for many_cross in (9, 10, 100):
                self.check_refused(6, list(GOOD_BOUGHS), [tie] * many_cross)
        self.check_refused(6, list(GOOD_BOUGHS), GOOD_CROSS * 3)

    def test_what_was_handed_in_stays(self):
        boughs = [(0, 2, 1, (1, 2))]
        cross = [("needs", 1, 1)]
        self.check_refused(3, boughs, cross)
        self.assertEqual(boughs, [(0, 2, 1, (1, 2))])
        self.assertEqual(cross, [("needs", 1, 1)])
        kids = [1, 2]
        self.check_refused(3, [(0, 1, 1, kids)], [])
        self.assertEqual(kids, [1, 2])


if __name__ == "__main__":
    unittest.main()
