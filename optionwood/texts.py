"""Woods as texts: read, with every other text refused, and shown."""

from optionwood.errors import NoText
from optionwood.sets import options_of
from optionwood.woods import wood_of

LETTERS = "abcdefghijklmnopqrstuvwxyz"
FIGURES = "0123456789"
LONGEST_NAME = 8
MOST_FIGURES = 60
NO_NAMES = ("must", "may", "one", "from", "needs", "bans", "most")


def read(text):
    if not isinstance(text, str):
        raise NoText("that is no text")
    lines = [line.split(" ") for line in text.split("\n")]
    names = names_in(lines[0])
    boughs = []
    cross = []
    for words in lines[1:]:
        if is_cross_line(words):
            cross.append(cross_tie_in(names, words))
        elif len(cross) > 0:
            raise NoText("a line behind one of a cross tie is none of a cross tie")
        else:
            boughs.append(bough_in(names, words))
    return (names, wood_of(len(names), boughs, cross))


def names_in(words):
    names = words[1:]
    if words[0] != "ware" or len(names) == 0:
        raise NoText("the first line is not the word ware and names")
    if not all([is_name(name) for name in names]) or len(set(names)) < len(names):
        raise NoText("the first line has a word that is no name, or a name twice")
    return names


def is_name(word):
    return 1 <= len(word) <= LONGEST_NAME and is_made_of(word, LETTERS) and word not in NO_NAMES


def is_number(word):
    figures = word[1:] if word.startswith("-") else word
    if not 1 <= len(figures) <= MOST_FIGURES or not is_made_of(figures, FIGURES):
        return False
    return word == "0" or figures[0] != "0"


def is_made_of(word, signs):
    return all([sign in signs for sign in word])


def number_in(word):
    if not is_number(word):
        raise NoText("a number is not written as numbers are")
    return int(word)


def option_in(names, word):
    if word not in names:
        raise NoText("a word is no name of the first line where one is due")
    return names.index(word)


def rising_in(names, words):
    options = [option_in(names, word) for word in words]
    if len(options) == 0 or options != sorted(set(options)):
        raise NoText("the names in a line are none, or not in their order, each once")
    return options


def bough_in(names, words):
    up = option_in(names, words[0])
    start = 5 if words[1:2] == ["from"] else 2
    kids = rising_in(names, words[start:])
    bounds = bounds_in(words[1:start], len(kids))
    # What can be said by several of the words is said by the first of them alone.
    if words_of_bounds(bounds[0], bounds[1], len(kids)) != words[1:start]:
        raise NoText("a line of a bough has another word than the first one that is right")
    return (up, bounds[0], bounds[1], tuple(kids))


def bounds_in(words, many_kids):
    if words == ["must"]:
        return (many_kids, many_kids)
    if words == ["may"]:
        return (0, many_kids)
    if words == ["one"]:
        return (1, 1)
    if words[0] == "from" and words[2] == "to":
        return (number_in(words[1]), number_in(words[3]))
    raise NoText("a line has none of the words of boughs and cross ties")


def words_of_bounds(low, high, many_kids):
    if low == many_kids and high == many_kids:
        return ["must"]
    if low == 0 and high == many_kids:
        return ["may"]
    if low == 1 and high == 1:
        return ["one"]
    return ["from", str(low), "to", str(high)]


def is_cross_line(words):
    return words[0] == "most" or (len(words) == 3 and words[1] in ("needs", "bans"))


def cross_tie_in(names, words):
    if words[0] == "most":
        return most_in(names, words)
    return (words[1], option_in(names, words[0]), option_in(names, words[2]))


def most_in(names, words):
    if len(words) < 5 or len(words) % 2 == 0 or words[2] != "of":
        raise NoText("a line that begins with most is not of that form")
    numbers = [number_in(word) for word in words[3::2]]
    options = rising_in(names, words[4::2])
    return ("most", number_in(words[1]), tuple(zip(options, numbers)))


def shown(names, wood):
    lines = [["ware"] + names]
    for up, low, high, kids in wood[1]:
        lines.append([names[up]] + words_of_bounds(low, high, len(kids)) + [names[k] for k in kids])
    for tie in wood[2]:
        lines.append(words_of_cross_tie(names, tie))
    return "\n".join([" ".join(words) for words in lines])


def words_of_cross_tie(names, tie):
    if tie[0] != "most":
        return [names[tie[1]], tie[0], names[tie[2]]]
    words = ["most", str(tie[1]), "of"]
    for k, number in tie[2]:
        words.extend([str(number), names[k]])
    return words


def show_set(names, some):
    return ",".join([names[k] for k in options_of(some)])
