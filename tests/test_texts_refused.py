"""Point 23: what is no text of a wood is refused with NoText, then what tells no wood with NoWood."""

import random
import re
import unittest

from samples import BICYCLE_TEXT, check_refused, some_names, some_woods
from optionwood.errors import NoText, NoWood
from optionwood.texts import read, shown
from optionwood.woods import wood_of

NO_NAMES = ("must", "may", "one", "from", "needs", "bans", "most")
THREE = "ware a b c\na may b c"
NUMBER = "(?:0|-?[1-9][0-9]{0,59})"


def made_of_text(text):
    """What wood_of is to be asked for, by the form of point 23 alone; None where a text has not that form."""
    first, *lines = text.split("\n")
    if not re.fullmatch("ware( [a-z]{1,8})+", first):
        return None
    names = first.split()[1:]
    if len(set(names)) < len(names) or set(names) & set(NO_NAMES):
        return None
    boughs = []
    cross = []
    for line in lines:
        tie = cross_tie_of(names, line)
        bough = bough_of(names, line)
        if tie is None and (bough is None or cross):
            return None
        (boughs if tie is None else cross).append(tie or bough)
    return (names, boughs, cross)


def options_of_words(names, words):
    if not words or any(word not in names for word in words):
        return None
    options = [names.index(word) for word in words]
    return tuple(options) if all(a < b for a, b in zip(options, options[1:])) else None


def bough_of(names, line):
    found = re.fullmatch("([a-z]+) (must|may|one|from (%s) to (%s))((?: [a-z]+)+)" % (NUMBER, NUMBER), line)
    kids = found and options_of_words(names, found[5].split())
    if not kids or found[1] not in names:
        return None
    many = len(kids)
    meanings = {"must": (many, many), "may": (0, many), "one": (1, 1)}
    low, high = meanings.get(found[2]) or (int(found[3]), int(found[4]))
    right = [word for word in ("must", "may", "one") if meanings[word] == (low, high)]
    return (names.index(found[1]), low, high, kids) if found[2] == (right + [found[2]])[0] else None


def cross_tie_of(names, line):
    found = re.fullmatch("([a-z]+) (needs|bans) ([a-z]+)", line)
    if found:
        return (found[2], names.index(found[1]), names.index(found[3])) if {found[1], found[3]} <= set(names) else None
    found = re.fullmatch("most (%s) of((?: %s [a-z]+)+)" % (NUMBER, NUMBER), line)
    options = found and options_of_words(names, found[2].split()[1::2])
    if not options:
        return None
    return ("most", int(found[1]), tuple(zip(options, [int(word) for word in found[2].split()[::2]])))


class RefusedTest(unittest.TestCase):
    def no_text(self, *texts):
        for text in texts:
            check_refused(self, NoText, read, text)

    def no_wood(self, *texts):
        for text in texts:
            check_refused(self, NoWood, read, text)

    def test_what_is_no_text(self):
        self.no_text(None, True, False, 0, 7, -1, 10 ** 59, [], (), {}, ["ware a"], ("ware", "a"), b"ware a", object())

    def test_another_first_line(self):
        self.no_text(
            "", "a", "war a", "wares a", "Ware a", "ware, a", "a may b", "\nware a", "most 1 of 1 a", "ware\ta",
        )

    def test_no_names(self):
        self.no_text("ware", "ware ", "ware\na may b", "ware\n")

    def test_a_name_twice(self):
        self.no_text("ware a a", "ware a b a", THREE.replace("ware a b c", "ware a b c b"), "ware ware ware")

    def test_names_too_long(self):
        self.assertEqual(read("ware abcdefgh"), (["abcdefgh"], wood_of(1, [], [])))
        self.no_text("ware abcdefghi", "ware abcdefghijklmnop", "ware a abcdefghi\na may abcdefghi")

    def test_names_with_other_signs(self):
        for name in (
            "A", "aB", "a1", "1", "a-b", "-a", "a_b", "a,b", "a.", "~", "a\tb", "a\r", "\u00e4", "\u00df", "\uff41",
            "\u0430",
        ):
            self.no_text("ware " + name, "ware a " + name, "ware a %s\na may %s" % (name, name))

    def test_words_that_no_name_is(self):
        for word in NO_NAMES:
            self.no_text("ware " + word, "ware a %s\na may %s" % (word, word), "ware %s a\n%s may a" % (word, word))
            self.assertEqual(read("ware %sx" % word), ([word + "x"], wood_of(1, [], [])))

    def test_blanks(self):
        for text in (BICYCLE_TEXT, "ware a", THREE + "\na needs b\nmost 1 of 2 a 3 b"):
            for place, sign in enumerate(text):
                if sign == " ":
                    self.no_text(text[:place] + " " + text[place:])
                    self.no_text(text[:place] + "\t" + text[place + 1:])
                if sign == "\n":
                    self.no_text(text[:place] + " " + text[place:], text[:place + 1] + " " + text[place + 1:])
            self.no_text(" " + text, text + " ")

    def test_line_ends(self):
        for text in (BICYCLE_TEXT, "ware a", THREE):
            self.no_text(text + "\n", "\n" + text, text + "\n\n", text.replace("\n", "\r\n") + "\r", text + "\r")
            if "\n" in text:
                self.no_text(text.replace("\n", "\n\n"), text.replace("\n", "\r\n"), text.replace("\n", " \n"))
                self.no_text(text.replace("\n", "\r"), text.replace("\n", "\x0b"), text.replace("\n", "\x0c"))

    def test_another_word_than_the_first_right_one(self):
        two = "ware a b\na %s b"
        self.no_text(two % "one", two % "from 1 to 1", two % "from 0 to 1")
        three = "ware a b c\na %s b c"
        self.no_text(three % "from 2 to 2", three % "from 0 to 2", three % "from 1 to 1")
        for word in ("must", "may", "one", "from 0 to 1", "from 1 to 2"):
            self.assertEqual(shown(*read(three % word)), three % word)

    def test_other_words_in_the_place_of_these(self):
        for word in (
            "", "Must", "musts", "mus", "a", "needs", "bans", "most", "of", "to", "1", "from", "from 0", "from 0 to",
        ):
            self.no_text("ware a b c\na %s b c" % word)
        for word in (
            "from 0 of 1", "from a to 1", "from 0 to b", "from to 0 1", "from 0 to 1 2", "from 0 1", "from 0 to to 1",
        ):
            self.no_text("ware a b c\na %s b c" % word)
        self.no_text(
            "ware a b c\nfrom 0 to 1 b c", "ware a b c\nmust b c", "ware a b c\nb c", "ware a b c\na", "ware a\na",
        )

    def test_boughs_without_kids(self):
        for word in ("must", "may", "one", "from 0 to 1", "from 0 to 0"):
            self.no_text("ware a b\na " + word, "ware a\na " + word, "ware a b\na may b\na " + word)

    def test_names_that_are_not_there(self):
        self.no_text("ware a b\na may c", "ware a b\nc may b", "ware a b\na may b c", "ware a b\na may b c a")
        self.no_text("ware a b\na may b\na needs c", "ware a b\na may b\nc bans a", "ware a b\na may b\nmost 1 of 1 c")
        self.no_text("ware ab b\na may b", "ware a b\nware may b", "ware a b\na may A")

    def test_kids_out_of_order_or_twice(self):
        self.no_text(
            "ware a b c\na may c b", "ware a b c\na may b b c", "ware a b c\na may b c c", "ware a b\na must b b",
        )
        self.no_text("ware a b c\na from 1 to 2 c b c", "ware a b c\nb may c a")

    def test_pairs_out_of_order_or_twice(self):
        for pairs in ("1 c 1 b", "1 a 1 a", "1 b 2 c 3 c", "1 c 2 a"):
            self.no_text(THREE + "\nmost 5 of " + pairs)

    def test_most_of_another_form(self):
        for line in (
            "most 5 of", "most 5 of 1", "most 5 of a", "most 5 of a 1", "most 5 of 1 a 2", "most 5 of 1 a b",
            "most 5 1 a",
            "most of 1 a", "most 5 to 1 a", "most a of 1 a", "most 5 of 1 2", "most 5 of 1 2 a", "most", "most 5",
            "5 of 1 a",
            "most 5 of 1 a 2 b 3", "Most 5 of 1 a", "most 5 of one a", "most five of 1 a",
        ):
            self.no_text(THREE + "\n" + line)

    def test_needs_and_bans_of_another_form(self):
        for word in ("needs", "bans"):
            for line in ("a %s", "%s b", "a %s b c", "%s", "a b %s", "%s a b", "a %s 1", "a %s %%s" % word, "a  %s b"):
                self.no_text(THREE + "\n" + line % word)
        self.no_text(THREE + "\na need b", THREE + "\na ban b", THREE + "\na Needs b")

    def test_bough_behind_a_cross_tie(self):
        self.no_text("ware a b c\na may b\na needs b\na may c", "ware a b c\na bans b\na may b c")
        self.no_text("ware a b c\nmost 1 of 1 a\na may b c", THREE + "\na needs b\nb may c")

    def test_numbers(self):
        bad = [
            "", "-", "+1", "+0", "-0", "00", "01", "-01", "007", "1.0", "1e3", "1_000", "0x1", "--1", "1-", "a", "1a",
            "x", "1x",
            "\u0663", "\u00b2", "\uff11", "9" * 61, "-" + "9" * 61, "1" + "0" * 60, "9" * 200, "0" * 60, "0" * 61,
            "- 1", "1,0",
        ]
        for number in bad:
            self.no_text("ware a\nmost %s of 1 a" % number, "ware a\nmost 1 of %s a" % number)
            self.no_text("ware a b\na from %s to 7 b" % number, "ware a b\na from 7 to %s b" % number)
            self.no_text("ware a b\na may b\nmost 3 of 1 a %s b" % number)

    def test_more_names_or_cross_ties_than_there_may_be(self):
        self.no_wood("ware a b c d e f g h i j\na may b c d e f g h i j", "ware a b c d e f g h i j")
        self.no_wood("ware a b\na may b" + "\na needs b" * 9, "ware a" + "\nmost 1 of 1 a" * 9)
        self.no_wood("ware " + " ".join(a + b for a in "abcdefgh" for b in "abcdefgh"))

    def test_low_above_high(self):
        self.no_wood("ware a b c\na from 2 to 1 b c", "ware a b c\na from 1 to 0 b c", "ware a b\na from 7 to 1 b")

    def test_low_and_high_that_no_bough_has(self):
        self.no_wood("ware a b c\na from 0 to 0 b c", "ware a b c\na from 0 to 3 b c", "ware a b c\na from 3 to 3 b c")
        self.no_wood("ware a b c\na from -1 to 2 b c", "ware a b c\na from -2 to -1 b c")
        self.no_wood("ware a b c\na from 1 to %s b c" % ("9" * 60), "ware a b c\na from -%s to 1 b c" % ("9" * 60))

    def test_option_in_no_bough_or_in_two(self):
        self.no_wood("ware a b", "ware a b c\na may b", "ware a b\na may b\na may b", "ware a b c\na may b c\nb must c")
        self.no_wood("ware a b\na needs b")

    def test_option_that_is_its_own_kid(self):
        self.no_wood("ware a\na may a", "ware a b\na may a b", "ware a b\na may b\nb may b", "ware a\na must a")

    def test_option_that_needs_or_bans_itself(self):
        self.no_wood("ware a\na needs a", "ware a\na bans a", THREE + "\nc needs c", THREE + "\na needs b\nb bans b")

    def test_kid_that_is_not_greater_than_its_up(self):
        self.no_wood(
            "ware a b\nb may a", "ware a b c\na may c\nc may b", "ware a b c\nc may a b", "ware a b c\nb may a c",
        )

    def test_no_text_ahead_of_no_wood(self):
        ten = "ware a b c d e f g h i j"
        self.no_text(ten + "\n", ten + " a", ten + "\na may c b", ten + "\na may k", ten + " must")
        self.no_text("ware a b c\na from 2 to 1 b c ", "ware a b c\na from 2 to 1 b c\na may d", "ware a\na may a\na")
        self.no_text("ware a\na needs a\na needs", "ware a\na may a\nmost 01 of 1 a", "ware a b\nb may a\n")
        self.no_text("ware a" + "\nmost 1 of 1 a" * 9 + "\nmost 1 of 1", "ware a b\na needs a\na may b")

    def test_long_texts(self):
        self.no_text("a" * 6000, " " * 6000, "\n" * 6000, "ware " + "a" * 5990, "ware a" + " a" * 2990)
        self.no_text("ware a\n" + "most 1 of" + " 1 a" * 1400, "ware a\nmost %s of 1 a" % ("1" * 5900))
        self.no_wood("ware a" + "\nmost 1 of 1 a" * 400, "ware a b" + "\na may b" * 700)

    def test_right_texts_with_signs_changed(self):
        chance = random.Random(111)
        met = {"told": 0, NoText: 0, NoWood: 0}
        for wood in some_woods(111, 180, 6, 3):
            text = shown(some_names(chance, wood[0]), wood)
            for trial in range(25):
                self.check_text(with_change(chance, text), met)
        self.assertGreater(min(met.values()), 80, met)

    def test_words_in_any_order(self):
        chance = random.Random(112)
        words = [
            "a", "b", "c", "may", "must", "one", "from 0 to 1", "needs", "bans", "most 1 of", "1", "0", "2 b", "-1 c",
        ]
        met = {"told": 0, NoText: 0, NoWood: 0}
        for trial in range(8000):
            lines = [" ".join(chance.sample(words, chance.randint(2, 3))) for line in range(chance.randint(0, 2))]
            start = chance.choice((["ware a b c", "a may b c"], ["ware a b"], ["ware a"], ["ware a b c", "a one b c"]))
            self.check_text("\n".join(start + lines), met)
        self.assertGreater(min(met.values()), 80, met)

    def check_text(self, text, met):
        made = made_of_text(text)
        if made is None:
            check_refused(self, NoText, read, text)
            met[NoText] += 1
            return
        names, boughs, cross = made
        try:
            wood = wood_of(len(names), boughs, cross)
        except NoWood:
            check_refused(self, NoWood, read, text)
            met[NoWood] += 1
            return
        self.assertEqual(read(text), (names, wood))
        self.assertEqual(shown(names, wood), text)
        met["told"] += 1


def with_change(chance, text):
    place = chance.randrange(len(text))
    kind = chance.randrange(4)
    if kind == 0:
        return text[:place] + text[place + 1:]
    if kind == 1:
        return text[:place] + chance.choice("ab z0-19\n") + text[place + kind:]
    words = re.split("([ \n])", text)
    one, other = (2 * chance.randrange(len(words) // 2 + 1) for word in range(2))
    words[one], words[other] = words[other], words[one if kind == 2 else other]
    return "".join(words)


if __name__ == "__main__":
    unittest.main()
