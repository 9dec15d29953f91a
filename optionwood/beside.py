"""Two woods of as many options beside each other: which of them sells what the other sells."""

from optionwood.cases import is_tree, told_tree
from optionwood.errors import Unlike
from optionwood.sets import with_option
from optionwood.ties import all_sure_kept, every_tie, is_ware
from optionwood.wares import wares


def within(one, other):
    check_alike(one, other)
    outside = [ware for ware in wares(one) if not is_ware(other, ware)]
    if len(outside) > 0:
        return ("out", outside[0])
    root = with_option(0, 0)
    return ("in", told_tree(one, every_tie(one), root, 0, lambda yes, no: kept_leaf(other, yes, no)))


def shows_within(one, other, tree):
    check_alike(one, other)
    root = with_option(0, 0)
    return is_tree(one, root, 0, tree, lambda word, yes, no: is_kept_leaf(other, word, yes, no))


def compared(one, other):
    there = within(one, other)
    back = within(other, one)
    if there[0] == "in" and back[0] == "in":
        return ("same", there[1], back[1])
    if there[0] == "in":
        return ("more", there[1], back[1])
    if back[0] == "in":
        return ("fewer", back[1], there[1])
    return ("neither", there[1], back[1])


def check_alike(one, other):
    if one[0] != other[0]:
        raise Unlike("the woods have unlike numbers of options")


def kept_leaf(other, yes, no):
    if all_sure_kept(other, yes, no):
        return ("kept",)
    return None


def is_kept_leaf(other, word, yes, no):
    return word == "kept" and all_sure_kept(other, yes, no)
