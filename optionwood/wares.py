"""Wares: all of a wood, the first in a stand, and how many there are without going through them."""

from optionwood.cases import cases, wares_in
from optionwood.errors import NoCount
from optionwood.sets import has, open_options, with_option
from optionwood.ties import every_tie, first_sure_broken


def wares(wood):
    root = with_option(0, 0)
    return sorted(wares_in(root, cases(wood, root, 0)))


def first_ware(wood, yes, no):
    if has(no, 0):
        return None
    return first_keeping(wood, every_tie(wood), with_option(yes, 0), no)


def first_keeping(wood, ties, yes, no):
    if first_sure_broken(wood, ties, yes, no) is not None:
        return None
    left = open_options(wood[0], yes, no)
    if len(left) == 0:
        return yes
    # All sets without the greatest open option come ahead of those that have it.
    k = left[-1]
    found = first_keeping(wood, ties, yes, with_option(no, k))
    if found is not None:
        return found
    return first_keeping(wood, ties, with_option(yes, k), no)


def ways(wood):
    if len(wood[2]) > 0:
        raise NoCount("the wood has cross ties")
    told = [1] * wood[0]
    # Kids are greater than their up, so from the last option on each kid is settled ahead of its up.
    for k in range(wood[0] - 1, -1, -1):
        for bough in wood[1]:
            if bough[0] == k:
                told[k] = told[k] * bough_ways(bough, told)
    return told


def bough_ways(bough, option_ways):
    by_count = [1]
    for kid in bough[3]:
        by_count = with_kid(by_count, option_ways[kid])
    return sum(by_count[bough[1]:bough[2] + 1])


def with_kid(by_count, kid_ways):
    # Sets of some kids, counted by how many they have: those without the new kid stay where they are,
    # those with it have one kid more.
    without = by_count + [0]
    having = [0] + [count * kid_ways for count in by_count]
    return [one + other for one, other in zip(without, having)]
