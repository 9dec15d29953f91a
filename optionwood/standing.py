"""Standing: which options never, always or sometimes come, with least sets of ties that make it so."""

from optionwood.cases import cases_of
from optionwood.sets import with_option
from optionwood.ties import every_tie
from optionwood.wares import first_keeping, first_ware


def bars(wood, ties, yes, no):
    return first_keeping(wood, ties, yes, no) is None


def least_bar(wood, yes, no):
    if not bars(wood, every_tie(wood), yes, no):
        return None
    left = least_ties(wood, yes, no)
    return (left, cases_of(wood, left, yes, no), tie_others(wood, left, yes, no))


def least_ties(wood, yes, no):
    left = every_tie(wood)
    for t in every_tie(wood):
        fewer = left_without(left, t)
        if bars(wood, fewer, yes, no):
            left = fewer
    return left


def tie_others(wood, ties, yes, no):
    return [(t, first_keeping(wood, left_without(ties, t), yes, no)) for t in ties]


def left_without(things, one):
    return [other for other in things if other != one]


def standing(wood, k):
    root = with_option(0, 0)
    alone = with_option(0, k)
    if first_ware(wood, root, 0) is None:
        return ("void", least_bar(wood, root, 0))
    # No stand has 0 both in yes and in no, so a bar for 0 can't be asked for.
    if k == 0:
        return ("always", None)
    having = first_ware(wood, root | alone, 0)
    if having is None:
        return ("never", least_bar(wood, root | alone, 0))
    without = first_ware(wood, root, alone)
    if without is None:
        return ("always", least_bar(wood, root, alone))
    return ("either", having, without)
