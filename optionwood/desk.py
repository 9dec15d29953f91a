"""A desk that is told rows of words, and answers each with a text."""

from optionwood.choice import Choice
from optionwood.errors import NoName, NoRow, NoWares
from optionwood.folds import folded
from optionwood.prices import best
from optionwood.standing import standing
from optionwood.texts import is_number, read, show_set, shown
from optionwood.wares import wares

MOST_SHOWN = 8

# What stands behind the first word of each row.
ROWS = {
    "show": (),
    "count": (),
    "wares": (),
    "best": (),
    "offers": (),
    "fold": (),
    "standing": ("name",),
    "back": ("name",),
    "price": ("name", "number"),
    "choose": ("name", "yes or no"),
    "why": ("name", "yes or no"),
}


class Desk:
    def __init__(self, text):
        told = read(text)
        self.names = told[0]
        self.wood = told[1]
        self.prices = [0] * len(told[0])
        self.choice = choice_of(told[1])

    def say(self, row):
        words = words_of(row)
        if len(words) == 1:
            return self.say_of_all(words[0])
        k = option_called(self.names, words[1])
        if words[0] == "standing":
            return standing_text(self.names, standing(self.wood, k))
        if words[0] == "price":
            self.prices[k] = int(words[2])
            return "ok"
        return self.say_of_choice(words, k)

    def say_of_all(self, word):
        if word == "show":
            return shown(self.names, self.wood)
        if word == "count":
            return str(len(wares(self.wood)))
        if word == "wares":
            return joined([show_set(self.names, ware) for ware in wares(self.wood)[:MOST_SHOWN]], "none")
        if word == "best":
            return best_text(self.names, best(self.wood, self.prices))
        if word == "offers":
            return joined([signed_name(self.names, offer) for offer in self.choosing().offers()], "nothing")
        return self.fold_wood()

    def say_of_choice(self, words, k):
        live = self.choosing()
        if words[0] == "why":
            return why_text(self.names, live.why(k, words[2] == "yes"))
        if words[0] == "back":
            live.take_back(k)
        else:
            live.choose(k, words[2] == "yes")
        return "ok"

    def choosing(self):
        if self.choice is None:
            raise NoWares("the wood is void")
        return self.choice

    def fold_wood(self):
        told = folded(self.wood)
        self.wood = told[0]
        self.names = [self.names[k] for k in told[1]]
        self.prices = [self.prices[k] for k in told[1]]
        self.choice = choice_of(told[0])
        return "ok"


# A desk of a void wood is there all the same: its rows about choosing are refused one by one.


def choice_of(wood):
    try:
        return Choice(wood)
    except NoWares:
        return None


def words_of(row):
    if not isinstance(row, str):
        raise NoRow("that is no text")
    words = row.split(" ")
    if words[0] not in ROWS:
        raise NoRow("no row begins so")
    form = ROWS[words[0]]
    if len(words) != 1 + len(form):
        raise NoRow("that row has another number of words")
    if not all([fits(kind, word) for kind, word in zip(form, words[1:])]):
        raise NoRow("that row has another word than yes or no, or a number not written as numbers are")
    return words


def fits(kind, word):
    if kind == "number":
        return is_number(word)
    # Any word may stand where a name is due: which option it names is asked once the row is known.
    return kind == "name" or word in ("yes", "no")


def option_called(names, word):
    if word not in names:
        raise NoName("no option is called so")
    return names.index(word)


def joined(words, without):
    if len(words) == 0:
        return without
    return " ".join(words)


def signed_name(names, pick):
    if pick[1]:
        return names[pick[0]]
    return "-" + names[pick[0]]


def standing_text(names, told):
    if told[0] == "either":
        return " ".join(["either", show_set(names, told[1]), show_set(names, told[2])])
    if told[1] is None:
        return told[0]
    return " ".join([told[0]] + [str(t) for t in told[1][0]])


def best_text(names, told):
    if told[0] == "none":
        return "none"
    return " ".join([show_set(names, told[1]), str(told[2])])


def why_text(names, told):
    if told is None:
        return "offered"
    return " ".join([str(t) for t in told[0]] + ["/"] + [signed_name(names, pick) for pick in told[1]])
