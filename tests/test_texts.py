"""Point 23: woods read from texts and shown as texts; and sets shown by names, as point 24 tells."""

import random
import unittest

from samples import (
    BICYCLE, BICYCLE_NAMES, BICYCLE_TEXT, FIFTY, LONE, NINE, options_in, set_of, some_names, some_woods,
)
from optionwood.texts import read, show_set, shown
from optionwood.woods import wood_of

LETTERS = list("abcdefghi")
SIXTY = int("9" * 60)


def shown_by_the_words(names, wood):
    lines = ["ware " + " ".join(names)]
    for up, low, high, kids in wood[1]:
        if (low, high) == (len(kids), len(kids)):
            word = "must"
        elif (low, high) == (0, len(kids)):
            word = "may"
        elif (low, high) == (1, 1):
            word = "one"
        else:
            word = "from %d to %d" % (low, high)
        lines.append(" ".join([names[up], word] + [names[k] for k in kids]))
    for tie in wood[2]:
        if tie[0] == "most":
            lines.append("most %d of " % tie[1] + " ".join("%d %s" % (number, names[k]) for k, number in tie[2]))
        else:
            lines.append("%s %s %s" % (names[tie[1]], tie[0], names[tie[2]]))
    return "\n".join(lines)


class BothWaysTest(unittest.TestCase):
    def check(self, text, names, wood):
        told = read(text)
        self.assertEqual(told, (names, wood))
        self.assertEqual([type(told), type(told[0]), type(told[1])], [tuple, list, tuple])
        self.assertEqual(shown(names, wood), text)

    def test_bicycle(self):
        self.check(BICYCLE_TEXT, BICYCLE_NAMES, BICYCLE)

    def test_one_option(self):
        self.check("ware a", ["a"], LONE)
        self.check("ware abcdefgh\nmost 0 of 0 abcdefgh", ["abcdefgh"], wood_of(1, [], [("most", 0, ((0, 0),))]))

    def test_nine_options(self):
        text = "ware a b c d e f g h i\na from 1 to 2 b c f\na may d\nc must e i\nd may g h"
        self.check(text, LETTERS, NINE)

    def test_words_of_boughs(self):
        words = {
            (1, 1, 1): "must", (0, 1, 1): "may", (2, 2, 2): "must", (0, 2, 2): "may", (1, 1, 2): "one",
            (0, 1, 2): "from 0 to 1", (1, 2, 2): "from 1 to 2", (3, 3, 3): "must", (0, 3, 3): "may",
            (1, 1, 3): "one", (0, 1, 3): "from 0 to 1", (0, 2, 3): "from 0 to 2", (1, 2, 3): "from 1 to 2",
            (2, 2, 3): "from 2 to 2", (2, 3, 3): "from 2 to 3", (1, 3, 3): "from 1 to 3",
        }
        for (low, high, many_kids), word in words.items():
            names = LETTERS[:many_kids + 1]
            text = "ware %s\na %s %s" % (" ".join(names), word, " ".join(names[1:]))
            self.check(text, names, wood_of(many_kids + 1, [(0, low, high, tuple(range(1, many_kids + 1)))], []))

    def test_boughs_in_any_order_and_several_of_one_up(self):
        text = "ware a b c d\nc may d\na must b\na may c"
        self.check(text, LETTERS[:4], wood_of(4, [(2, 0, 1, (3,)), (0, 1, 1, (1,)), (0, 0, 1, (2,))], []))

    def test_cross_ties(self):
        text = "ware a b c\na may b c\nc needs a\na bans b\nmost 3 of 1 a\nb needs c\nmost -2 of -1 a 0 b 7 c"
        cross = [
            ("needs", 2, 0), ("bans", 0, 1), ("most", 3, ((0, 1),)), ("needs", 1, 2),
            ("most", -2, ((0, -1), (1, 0), (2, 7))),
        ]
        self.check(text, LETTERS[:3], wood_of(3, [(0, 0, 2, (1, 2))], cross))

    def test_eight_cross_ties_and_ties_that_are_alike(self):
        text = "ware a b\na may b" + "\na bans b" * 8
        self.check(text, ["a", "b"], wood_of(2, [(0, 0, 1, (1,))], [("bans", 0, 1)] * 8))

    def test_names_that_are_words_elsewhere(self):
        text = "ware ware of to\nware from 0 to 1 of to\nof needs to\nto bans ware\nmost 1 of 2 ware 3 of 4 to"
        cross = [("needs", 1, 2), ("bans", 2, 0), ("most", 1, ((0, 2), (1, 3), (2, 4)))]
        self.check(text, ["ware", "of", "to"], wood_of(3, [(0, 0, 1, (1, 2))], cross))
        text = "ware to of ware\nto one of ware\nmost 0 of 1 of"
        self.check(text, ["to", "of", "ware"], wood_of(3, [(0, 1, 1, (1, 2))], [("most", 0, ((1, 1),))]))
        text = "ware yes no nothing none\nyes may no nothing none"
        self.check(text, text.split("\n")[0].split()[1:], wood_of(4, [(0, 0, 3, (1, 2, 3))], []))

    def test_names_that_begin_alike(self):
        text = "ware a aa aaa mus mustx onea\na must aa aaa\naaa may mus mustx\nmus must onea\nmus bans onea"
        wood = wood_of(6, [(0, 2, 2, (1, 2)), (2, 0, 2, (3, 4)), (3, 1, 1, (5,))], [("bans", 3, 5)])
        self.check(text, ["a", "aa", "aaa", "mus", "mustx", "onea"], wood)

    def test_numbers(self):
        for number in (0, 1, -1, 9, 10, -10, 100, 907, FIFTY, -FIFTY, SIXTY, -SIXTY, 10 ** 59, -10 ** 59):
            text = "ware a\nmost %d of %d a" % (number, number)
            self.check(text, ["a"], wood_of(1, [], [("most", number, ((0, number),))]))

    def test_woods_of_every_kind(self):
        chance = random.Random(101)
        for wood in some_woods(101, 270, 9):
            names = some_names(chance, wood[0])
            self.check(shown_by_the_words(names, wood), names, wood)

    def test_told_names_are_the_askers_own(self):
        names = read(BICYCLE_TEXT)[0]
        again = read(BICYCLE_TEXT)[0]
        names.append("more")
        names[0] = "other"
        self.assertEqual(again, BICYCLE_NAMES)
        self.assertEqual(read(BICYCLE_TEXT), (BICYCLE_NAMES, BICYCLE))

    def test_names_that_are_handed_in_stay(self):
        names = list(BICYCLE_NAMES)
        self.assertEqual(shown(names, BICYCLE), BICYCLE_TEXT)
        show_set(names, set_of(0, 2, 4))
        self.assertEqual(names, BICYCLE_NAMES)
        names[0] = "cycle"
        self.assertEqual(shown(BICYCLE_NAMES, BICYCLE), BICYCLE_TEXT)
        self.assertEqual(shown(names, BICYCLE).split("\n")[1], "cycle must frame")


class ShowSetTest(unittest.TestCase):
    def test_none_one_several(self):
        self.assertEqual(show_set(BICYCLE_NAMES, 0), "")
        self.assertEqual(show_set(BICYCLE_NAMES, 1), "bike")
        self.assertEqual(show_set(BICYCLE_NAMES, set_of(4)), "lamp")
        self.assertEqual(show_set(BICYCLE_NAMES, set_of(0, 2)), "bike,steel")
        self.assertEqual(show_set(BICYCLE_NAMES, set_of(0, 1, 2, 3, 4)), "bike,frame,steel,alu,lamp")

    def test_every_set(self):
        names = ["z", "y", "x", "w", "v", "u", "t", "s", "r"]
        for some in range(512):
            self.assertEqual(show_set(names, some), ",".join(names[k] for k in options_in(some)))


if __name__ == "__main__":
    unittest.main()
