"""Point 24: what a desk refuses, in which order, and that nothing is changed by it."""

import unittest

from samples import BICYCLE_NAMES, BICYCLE_TEXT, check_refused
from optionwood.desk import Desk
from optionwood.errors import NoName, NoOffer, NoRow, NoText, NoWares, NoWood

VOID_TEXT = "ware a b c\na must b\na may c\na bans b\nc needs b"
BAD_NUMBERS = (
    "-", "+1", "-0", "00", "01", "-01", "1.0", "1e3", "1_0", "--1", "x", "1x", "\u0663", "\uff11", "9" * 61,
    "-" + "9" * 61,
    "yes", "lamp",
)


class MadeTest(unittest.TestCase):
    def test_no_desk_of_what_is_no_text(self):
        for text in (
            None, 7, ["ware a"], b"ware a", "", "ware", "ware a a", "ware a\n", "ware a b\na one b", "ware a  b",
        ):
            check_refused(self, NoText, Desk, text)

    def test_no_desk_of_what_tells_no_wood(self):
        for text in ("ware a b", "ware a\na needs a", "ware a b\nb may a", "ware a b c d e f g h i j"):
            check_refused(self, NoWood, Desk, text)

    def test_no_text_ahead_of_no_wood(self):
        check_refused(self, NoText, Desk, "ware a b ")

    def test_a_desk_of_a_void_wood(self):
        self.assertEqual(Desk(VOID_TEXT).say("show"), VOID_TEXT)


class RefusedTest(unittest.TestCase):
    def setUp(self):
        self.desks = []
        for text, rows in (
            (BICYCLE_TEXT, ("price lamp -7", "choose steel yes", "choose alu no")),
            (VOID_TEXT, ("price b 3",)),
        ):
            desk = Desk(text)
            for row in rows:
                desk.say(row)
            self.desks.append(desk)

    def told(self, desk):
        rows = ["show", "count", "wares", "best"]
        if desk is self.desks[0]:
            rows += ["offers", "why lamp yes", "why frame no"] + ["standing " + name for name in BICYCLE_NAMES]
        return [desk.say(row) for row in rows]

    def check(self, kind, *rows):
        """Each row is refused so by the desk of the bicycle, and changes nothing."""
        self.check_desk(self.desks[0], kind, rows)

    def check_void(self, kind, *rows):
        self.check_desk(self.desks[1], kind, rows)

    def check_desk(self, desk, kind, rows):
        before = self.told(desk)
        for row in rows:
            check_refused(self, kind, desk.say, row)
        self.assertEqual(self.told(desk), before)

    def check_both(self, kind, *rows):
        self.check(kind, *rows)
        self.check_void(kind, *rows)

    def test_what_is_no_text(self):
        self.check_both(NoRow, None, True, 0, 7, -10 ** 59, [], ["show"], ("show",), {}, b"show", object())

    def test_another_first_word(self):
        self.check_both(
            NoRow, "", " ", "shows", "sho", "Show", "SHOW", "show\n", "\nshow", "ok", "bike", "lamp yes", "yes",
        )
        self.check_both(
            NoRow, "ware", "chosen", "take lamp", "unchoose lamp", "choose\tlamp\tyes", "name", "flocks", "ware",
        )
        self.check_both(NoRow, "show\ncount", "standing\nbike", "folded", "exit", "prices lamp 3", "number")

    def test_too_many_words(self):
        for word in ("show", "count", "wares", "best", "offers", "fold"):
            self.check_both(NoRow, word + " bike", word + " yes", word + " " + word, word + " 1 2")
        self.check_both(NoRow, "standing bike lamp", "back lamp lamp", "back steel yes", "standing a b")
        self.check_both(NoRow, "price lamp 3 4", "choose lamp yes yes", "choose lamp steel yes", "why lamp no no")

    def test_too_few_words(self):
        self.check_both(
            NoRow, "standing", "back", "price", "price lamp", "price 3", "choose", "choose lamp", "choose yes",
        )
        self.check_both(NoRow, "why", "why lamp", "why no")

    def test_another_word_than_yes_or_no(self):
        for word in ("Yes", "NO", "y", "n", "true", "True", "False", "1", "0", "lamp", "-lamp", "yesno", "yes\n", "-"):
            self.check_both(NoRow, "choose lamp " + word, "why lamp " + word, "choose frame " + word)

    def test_numbers_that_are_not_written_so(self):
        for word in BAD_NUMBERS:
            self.check_both(NoRow, "price lamp " + word, "price bike " + word)

    def test_two_blanks_and_blanks_at_an_end(self):
        for row in ("show", "offers", "fold", "best"):
            self.check_both(NoRow, row + " ", " " + row, " " + row + " ", row + "  ")
        for row in ("standing bike", "back steel", "price lamp 3", "choose lamp yes", "why frame no"):
            self.check_both(NoRow, row + " ", " " + row, row.replace(" ", "  "), row.replace(" ", "\t"))
            self.check_both(NoRow, row.replace(" ", "  ", 1))
        self.check_both(NoRow, "choose lamp ", "why lamp ", "price lamp ")

    def test_names_that_no_option_has(self):
        for name in (
            "bikes", "bik", "Bike", "BIKE", "a1", "1", "-lamp", "yes", "must", "show", "abcdefghijk", "bike\n", "~",
        ):
            self.check_both(NoName, "standing " + name, "back " + name, "price %s 3" % name)
            self.check_both(
                NoName, "choose %s yes" % name, "choose %s no" % name, "why %s yes" % name, "why %s no" % name,
            )

    def test_a_word_without_signs_in_the_place_of_a_name(self):
        self.check_both(NoName, "standing ", "back ", "price  3", "choose  yes", "why  no")

    def test_no_row_ahead_of_no_name(self):
        self.check_both(
            NoRow, "standing x y", "back x y", "price x 03", "price x -0", "price x", "choose x maybe", "why x",
        )
        self.check_both(NoRow, "choose x", "why x Yes", "price  03", "choose  maybe", "show x")

    def test_no_name_ahead_of_no_wares(self):
        self.check_void(NoName, "choose x yes", "back x", "why x no")
        self.check_void(NoRow, "choose x", "offers x", "fold x")

    def test_no_wares(self):
        self.check_void(NoWares, "offers", "fold")
        for name in "abc":
            rows = ["choose %s yes", "choose %s no", "back %s", "why %s yes", "why %s no"]
            self.check_void(NoWares, *[row % name for row in rows])

    def test_what_a_void_wood_answers(self):
        desk = self.desks[1]
        self.assertEqual(self.told(desk), [VOID_TEXT, "0", "none", "none"])
        self.assertEqual(desk.say("standing b"), "void 0 2")
        self.assertEqual(desk.say("price c 4"), "ok")

    def test_no_offer_of_a_choice(self):
        self.check(NoOffer, "choose frame no", "choose bike yes", "choose bike no")
        self.check(NoOffer, "choose steel yes", "choose steel no", "choose alu yes", "choose alu no")
        self.desks[0].say("back steel")
        self.desks[0].say("choose lamp yes")
        check_refused(self, NoOffer, self.desks[0].say, "choose steel no")
        self.assertEqual(self.desks[0].say("offers"), "frame steel")

    def test_no_offer_of_taking_back(self):
        self.check(NoOffer, "back bike", "back frame", "back lamp")
        self.desks[0].say("back steel")
        check_refused(self, NoOffer, self.desks[0].say, "back steel")

    def test_no_offer_of_why(self):
        self.check(NoOffer, "why bike yes", "why bike no", "why steel yes", "why steel no", "why alu no")

    def test_names_that_are_gone_behind_a_fold(self):
        desk = Desk("ware a b c\na may b c\nb bans a")
        desk.say("choose c yes")
        desk.say("fold")
        for row in ("standing b", "price b 3", "choose b no", "back b", "why b yes"):
            check_refused(self, NoName, desk.say, row)
        check_refused(self, NoOffer, desk.say, "back c")
        self.assertEqual(desk.say("show"), "ware a c\na may c")
        self.assertEqual(desk.say("offers"), "-c c")


if __name__ == "__main__":
    unittest.main()
