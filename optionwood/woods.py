"""Woods: options in a tree of boughs, with cross ties between them."""

from optionwood.errors import NoWood
from optionwood.sets import has, with_option

MOST_OPTIONS = 9
MOST_CROSS_TIES = 8


def wood_of(many, boughs, cross):
    if not is_whole_within(many, 1, MOST_OPTIONS):
        raise NoWood("the number of options is no whole number from 1 to 9")
    if not isinstance(boughs, list):
        raise NoWood("the boughs are no list")
    if not isinstance(cross, list):
        raise NoWood("the cross ties are no list")
    wood = (many, tuple(boughs), tuple(cross))
    check_boughs(many, wood[1])
    check_cross_ties(many, wood[2])
    return wood


def many_ties(wood):
    return len(wood[1]) + len(wood[2])


def tie_at(wood, t):
    boughs = wood[1]
    if t < len(boughs):
        return boughs[t]
    return wood[2][t - len(boughs)]


def up_of(wood, k):
    for bough in wood[1]:
        if k in bough[3]:
            return bough[0]
    return None


def beneath(wood, k):
    some = with_option(0, k)
    # Kids are greater than their up, so each up is settled ahead of its kids, wherever the boughs stand.
    for option in range(k + 1, wood[0]):
        if has(some, up_of(wood, option)):
            some = with_option(some, option)
    return some


# What is looked at below may be anything at all, so its kind is always asked ahead of its worth; and the
# words of a refusal don't show it, as a number of too many figures can't be written out.


def check_boughs(many, boughs):
    kids = []
    for place, bough in enumerate(boughs):
        if not is_bough(many, bough):
            raise NoWood(f"bough {place} is none")
        kids.extend(bough[3])
    if sorted(kids) != list(range(1, many)):
        raise NoWood("an option other than 0 is a kid of no bough, or of several")


def check_cross_ties(many, cross):
    if len(cross) > MOST_CROSS_TIES:
        raise NoWood("there are more than 8 cross ties")
    for place, tie in enumerate(cross):
        if not is_cross_tie(many, tie):
            raise NoWood(f"cross tie {place} is none")


def is_whole(thing):
    return isinstance(thing, int) and not isinstance(thing, bool)


def is_whole_within(thing, least, greatest):
    return is_whole(thing) and least <= thing <= greatest


def is_option(many, thing):
    return is_whole_within(thing, 0, many - 1)


def is_tuple_of_length(thing, length):
    return isinstance(thing, tuple) and len(thing) == length


def is_filled_tuple(thing):
    return isinstance(thing, tuple) and len(thing) > 0


def are_rising_options(many, things, floor):
    last = floor
    for thing in things:
        if not is_whole_within(thing, last + 1, many - 1):
            return False
        last = thing
    return True


def is_bough(many, bough):
    if not is_tuple_of_length(bough, 4):
        return False
    up = bough[0]
    high = bough[2]
    kids = bough[3]
    if not is_option(many, up) or not is_filled_tuple(kids):
        return False
    if not are_rising_options(many, kids, up):
        return False
    return is_whole_within(high, 1, len(kids)) and is_whole_within(bough[1], 0, high)


def is_cross_tie(many, tie):
    if not is_tuple_of_length(tie, 3) or not isinstance(tie[0], str):
        return False
    if tie[0] == "most":
        return is_whole(tie[1]) and are_pairs(many, tie[2])
    if tie[0] not in ("needs", "bans"):
        return False
    return is_option(many, tie[1]) and is_option(many, tie[2]) and tie[1] != tie[2]


def are_pairs(many, pairs):
    if not is_filled_tuple(pairs):
        return False
    for pair in pairs:
        if not is_tuple_of_length(pair, 2) or not is_whole(pair[1]):
            return False
    return are_rising_options(many, [pair[0] for pair in pairs], -1)
