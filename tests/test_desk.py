"""Point 24 and the rows that the interface lists: what a desk answers."""

import random
import unittest

from samples import BICYCLE_NAMES, BICYCLE_TEXT, options_in, some_names, some_woods, wares_at
from optionwood.choice import Choice
from optionwood.desk import Desk
from optionwood.errors import NoWares, WoodError
from optionwood.folds import folded
from optionwood.prices import best
from optionwood.standing import standing
from optionwood.texts import shown

SIXTY = "9" * 60
VOID_TEXT = "ware a b c\na must b\na may c\na bans b\nc needs b"
# c never comes, by ties 1 and 2.
NEVER_TEXT = "ware a b c d\na may b c d\nc needs b\nb bans c"


class RowsTest(unittest.TestCase):
    def check(self, text, *rows):
        """Each row with the answer of one desk, from the first on."""
        desk = Desk(text)
        for row, answer in rows:
            self.assertEqual(desk.say(row), answer, row)
        return desk

    def test_show(self):
        for text in (BICYCLE_TEXT, VOID_TEXT, NEVER_TEXT, "ware a", "ware show\nmost 1 of 2 show"):
            self.check(text, ("show", text))

    def test_count(self):
        self.check(BICYCLE_TEXT, ("count", "3"))
        self.check(VOID_TEXT, ("count", "0"))
        self.check("ware a", ("count", "1"))
        self.check("ware a b c d e f g h i\na may b c d e f g h i", ("count", "256"))

    def test_wares(self):
        self.check(BICYCLE_TEXT, ("wares", "bike,frame,steel bike,frame,alu bike,frame,steel,lamp"))
        self.check(VOID_TEXT, ("wares", "none"))
        self.check("ware a", ("wares", "a"))

    def test_eight_wares_and_more(self):
        eight = "a a,b a,c a,b,c a,d a,b,d a,c,d a,b,c,d"
        self.check("ware a b c d\na may b c d", ("wares", eight), ("count", "8"))
        self.check("ware a b c d e\na may b c d e", ("wares", eight), ("count", "16"))
        self.check("ware a b c d e\na may b c d\na must e", ("wares", eight.replace(" ", ",e ") + ",e"), ("count", "8"))
        six = "ware a b c d e\na from 0 to 2 b c d\na may e\nb bans e\nd needs c\nmost 1 of 1 c 1 e"
        self.check(six, ("count", "6"), ("wares", "a a,b a,c a,b,c a,c,d a,e"))

    def test_standing(self):
        self.check(BICYCLE_TEXT, ("standing bike", "always"), ("standing frame", "always 0"))
        self.check(BICYCLE_TEXT, ("standing steel", "either bike,frame,steel bike,frame,alu"))
        self.check(BICYCLE_TEXT, ("standing lamp", "either bike,frame,steel,lamp bike,frame,steel"))
        self.check(NEVER_TEXT, ("standing c", "never 1 2"), ("standing a", "always"), ("standing d", "either a,d a"))
        for name in "abc":
            self.check(VOID_TEXT, ("standing " + name, "void 0 2"))
        self.check("ware a\nmost -1 of 0 a", ("standing a", "void 0"))

    def test_standing_always_by_several_ties(self):
        text = "ware a b c\na may b\nb must c\na needs c"
        self.check(text, ("standing b", "always 1 2"), ("standing c", "always 2"))

    def test_best_and_price(self):
        self.check(
            BICYCLE_TEXT,
            ("best", "bike,frame,steel 0"),
            ("price alu -5", "ok"),
            ("best", "bike,frame,alu -5"),
            ("price lamp -6", "ok"),
            ("best", "bike,frame,steel,lamp -6"),
            ("price bike 106", "ok"),
            ("best", "bike,frame,steel,lamp 100"),
            ("price lamp 0", "ok"),
            ("best", "bike,frame,alu 101"),
            ("price alu 7", "ok"),
            ("best", "bike,frame,steel 106"),
        )
        self.check("ware a", ("price a -%s" % SIXTY, "ok"), ("best", "a -" + SIXTY))
        self.check("ware a b\na must b", ("price a " + SIXTY, "ok"), ("price b 1", "ok"), ("best", "a,b 1" + "0" * 60))

    def test_best_of_a_void_wood(self):
        self.check(VOID_TEXT, ("best", "none"), ("price b -4", "ok"), ("best", "none"), ("show", VOID_TEXT))

    def test_choosing(self):
        self.check(
            BICYCLE_TEXT,
            ("offers", "frame -steel steel -alu alu -lamp lamp"),
            ("choose lamp yes", "ok"),
            ("offers", "frame steel -alu"),
            ("choose alu no", "ok"),
            ("offers", "frame steel"),
            ("back lamp", "ok"),
            ("offers", "frame steel -lamp lamp"),
            ("choose steel yes", "ok"),
            ("choose frame yes", "ok"),
            ("choose lamp no", "ok"),
            ("offers", "nothing"),
            ("back alu", "ok"),
            ("offers", "-alu"),
        )
        self.check("ware a", ("offers", "nothing"))

    def test_why(self):
        self.check(
            BICYCLE_TEXT,
            ("why frame yes", "offered"),
            ("why frame no", "0 /"),
            ("why lamp yes", "offered"),
            ("choose steel no", "ok"),
            ("why lamp yes", "3 / -steel"),
            ("why lamp no", "offered"),
            ("back steel", "ok"),
            ("choose lamp yes", "ok"),
            ("why steel no", "3 / lamp"),
            ("choose alu no", "ok"),
            ("why frame no", "1 3 / lamp"),
        )
        text = "ware a b c d e f\na may b c d e f\nmost 5 of 2 b 2 c 2 d\nf needs d\nf bans e"
        self.check(
            text,
            ("choose c yes", "ok"), ("choose e no", "ok"), ("choose b yes", "ok"),
            ("why f yes", "1 2 / b c"), ("why d yes", "1 / b c"), ("why f no", "offered"),
        )
        text = "ware a b c d\na from 1 to 2 b c d"
        rows = (("choose d no", "ok"), ("choose b no", "ok"), ("why c no", "0 / -b -d"), ("why c yes", "offered"))
        self.check(text, *rows)

    def test_what_was_chosen_stays_behind_a_price(self):
        desk = self.check(
            BICYCLE_TEXT, ("choose lamp yes", "ok"), ("price lamp 7", "ok"), ("offers", "frame steel -alu"),
        )
        self.assertEqual(desk.say("best"), "bike,frame,steel 0")

    def test_other_rows_do_not_hang_on_what_is_chosen(self):
        desk = Desk(BICYCLE_TEXT)
        desk.say("price lamp -7")
        rows = ["show", "count", "wares", "best"] + ["standing " + name for name in BICYCLE_NAMES]
        before = [desk.say(row) for row in rows]
        for deed in ("choose steel no", "choose lamp no", "back steel", "why alu no"):
            desk.say(deed)
            self.assertEqual([desk.say(row) for row in rows], before)

    def test_asking_changes_nothing(self):
        for text in (BICYCLE_TEXT, NEVER_TEXT, "ware a"):
            desk = Desk(text)
            rows = ["show", "count", "wares", "best", "offers"]
            before = [desk.say(row) for row in rows]
            self.assertEqual([desk.say(row) for row in rows], before)
            self.assertEqual([desk.say(row) for row in reversed(rows)], before[::-1])

    def test_names_that_are_words_of_rows(self):
        self.check(
            "ware ware yes no\nware may yes no\nyes bans no",
            ("choose yes yes", "ok"), ("why no yes", "1 / yes"), ("back yes", "ok"), ("choose no no", "ok"),
            ("offers", "-yes yes"), ("standing ware", "always"), ("price no 3", "ok"), ("best", "ware 0"),
        )

    def test_an_option_called_nothing(self):
        self.check(
            "ware a nothing\na must nothing", ("offers", "nothing"), ("choose nothing yes", "ok"),
            ("offers", "nothing"),
        )

    def test_two_desks(self):
        one = Desk(BICYCLE_TEXT)
        other = Desk(BICYCLE_TEXT)
        one.say("price alu -5")
        one.say("choose lamp yes")
        self.assertEqual(other.say("best"), "bike,frame,steel 0")
        self.assertEqual(other.say("offers"), "frame -steel steel -alu alu -lamp lamp")
        other.say("fold")
        self.assertEqual(one.say("show"), BICYCLE_TEXT)
        self.assertEqual(one.say("best"), "bike,frame,alu -5")
        self.assertEqual(one.say("offers"), "frame steel -alu")


class FoldTest(unittest.TestCase):
    TEXT = "ware a b c d e\na may b c d\nd must e\nb bans a\nc needs d\ne bans c\nmost 9 of 4 a 4 e"

    def test_everything_behind_a_fold(self):
        desk = Desk(self.TEXT)
        for row in ("price a 1", "price b 2", "price c 3", "price d -40", "price e 5", "choose d yes", "choose b no"):
            self.assertEqual(desk.say(row), "ok")
        self.assertEqual(desk.say("wares"), "a a,d,e")
        self.assertEqual(desk.say("standing d"), "either a,d,e a")
        self.assertEqual(desk.say("fold"), "ok")
        self.assertEqual(desk.say("show"), "ware a d e\na may d\nd must e")
        self.assertEqual(desk.say("count"), "2")
        self.assertEqual(desk.say("wares"), "a a,d,e")
        self.assertEqual(desk.say("best"), "a,d,e -34")
        self.assertEqual(desk.say("offers"), "-d d -e e")
        self.assertEqual(desk.say("standing e"), "either a,d,e a")
        self.assertEqual(desk.say("choose e no"), "ok")
        self.assertEqual(desk.say("why d yes"), "1 / -e")
        self.assertEqual(desk.say("price e 39"), "ok")
        self.assertEqual(desk.say("best"), "a,d,e 0")
        self.assertEqual(desk.say("fold"), "ok")
        self.assertEqual(desk.say("offers"), "-d d -e e")
        self.assertEqual(desk.say("best"), "a,d,e 0")
        self.assertEqual(desk.say("show"), "ware a d e\na may d\nd must e")

    def test_fold_to_one_option(self):
        desk = Desk("ware a b\na may b\na bans b")
        self.assertEqual(
            [desk.say(row) for row in ("fold", "show", "offers", "best")], ["ok", "ware a", "nothing", "a 0"],
        )


class WoodsTest(unittest.TestCase):
    """Desks of many woods, told rows by chance, against the stages and the wares gone through one by one."""

    def test_rows_by_chance(self):
        chance = random.Random(121)
        self.met = {}
        for wood in some_woods(121, 150, 6, 4):
            self.names = some_names(chance, wood[0])
            self.wood = wood
            self.prices = [0] * wood[0]
            self.choice = Choice(wood) if wares_at(wood, 1, 0) else None
            desk = Desk(shown(self.names, wood))
            for trial in range(25):
                self.check_row(desk, self.some_row(chance))
        self.assertEqual(len(self.met), 11)
        self.assertGreater(min(self.met.values()), 40, self.met)

    def some_row(self, chance):
        word = chance.choice(
            "show count wares best offers standing back price price choose choose choose why why".split(),
        )
        if chance.randrange(30) == 0:
            word = "fold"
        words = [word]
        if word not in ("show", "count", "wares", "best", "offers", "fold"):
            words.append(chance.choice(self.names))
        if word == "price":
            words.append(str(chance.choice((0, -1, 1, int(SIXTY))) * chance.randint(1, 9) // 9))
        if word in ("choose", "why"):
            words.append(chance.choice(("yes", "no")))
        return " ".join(words)

    def check_row(self, desk, row):
        words = row.split()
        self.met[words[0]] = self.met.get(words[0], 0) + 1
        try:
            answer = self.answer_to(words)
        except WoodError as refusal:
            with self.assertRaises(type(refusal)):
                desk.say(row)
        else:
            told = desk.say(row)
            self.assertIs(type(told), str)
            self.assertEqual(told, answer, row)

    def written(self, some):
        return ",".join(self.names[k] for k in options_in(some))

    def signed(self, picks):
        return [("" if value else "-") + self.names[k] for k, value in picks]

    def answer_to(self, words):
        k = self.names.index(words[1]) if len(words) > 1 else None
        value = words[-1] == "yes"
        sold = [self.written(ware) for ware in wares_at(self.wood, 1, 0)]
        if words[0] == "show":
            return shown(self.names, self.wood)
        if words[0] == "count":
            return str(len(sold))
        if words[0] == "wares":
            return " ".join(sold[:8]) or "none"
        if words[0] == "standing":
            told = standing(self.wood, k)
            if told[0] == "either":
                return "either %s %s" % (self.written(told[1]), self.written(told[2]))
            return " ".join([told[0]] + [str(t) for t in (told[1] or [[]])[0]])
        if words[0] == "price":
            self.prices[k] = int(words[2])
            return "ok"
        if words[0] == "best":
            told = best(self.wood, self.prices)
            return "none" if told[0] == "none" else "%s %d" % (self.written(told[1]), told[2])
        if self.choice is None:
            raise NoWares
        if words[0] == "offers":
            return " ".join(self.signed(self.choice.offers())) or "nothing"
        if words[0] == "why":
            told = self.choice.why(k, value)
            return "offered" if told is None else " ".join([str(t) for t in told[0]] + ["/"] + self.signed(told[1]))
        if words[0] == "fold":
            self.wood, kept = folded(self.wood)[:2]
            self.names = [self.names[k] for k in kept]
            self.prices = [self.prices[k] for k in kept]
            self.choice = Choice(self.wood)
        elif words[0] == "choose":
            self.choice.choose(k, value)
        else:
            self.choice.take_back(k)
        return "ok"


if __name__ == "__main__":
    unittest.main()
