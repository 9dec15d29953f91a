"""Folding a wood into its shortest form, which sells the same wares."""

from optionwood.errors import NoWares
from optionwood.sets import has, options_of, with_option
from optionwood.ties import count_in, keeps
from optionwood.wares import wares


def folded(wood):
    sold = wares(wood)
    if len(sold) == 0:
        raise NoWares("the wood is void")
    kept = [k for k in range(wood[0]) if any([has(ware, k) for ware in sold])]
    boughs = boughs_left(wood[1], kept)
    cross = cross_left(wood[2], kept)
    sold = wares((len(kept), boughs, cross))
    boughs = tuple([tightened(bough, sold) for bough in boughs])
    cross = without_needless(len(kept), boughs, cross)
    tight = [(first_with(sold, bough, bough[1]), first_with(sold, bough, bough[2])) for bough in boughs]
    needed = [first_breaking(len(kept), boughs, cross, place) for place in range(len(cross))]
    return ((len(kept), boughs, cross), kept, tight, needed)


def unfolded(kept, some):
    whole = 0
    for k in options_of(some):
        whole = with_option(whole, kept[k])
    return whole


# An option's new number is its place among those that are kept.


def boughs_left(boughs, kept):
    left = []
    for up, low, high, kids in boughs:
        fewer = tuple([kept.index(k) for k in kids if k in kept])
        # A kid that some ware has comes with its up.
        if len(fewer) > 0:
            left.append((kept.index(up), low, high, fewer))
    return tuple(left)


def cross_left(cross, kept):
    left = []
    for tie in cross:
        if tie[0] == "most":
            pairs = tuple([(kept.index(k), number) for k, number in tie[2] if k in kept])
            if len(pairs) > 0:
                left.append(("most", tie[1], pairs))
        elif tie[1] in kept and tie[2] in kept:
            left.append((tie[0], kept.index(tie[1]), kept.index(tie[2])))
    return tuple(left)


def tightened(bough, sold):
    counts = [count_in(bough[3], ware) for ware in sold if has(ware, bough[0])]
    return (bough[0], min(counts), max(counts), bough[3])


def first_with(sold, bough, count):
    return [ware for ware in sold if has(ware, bough[0]) and count_in(bough[3], ware) == count][0]


def without_needless(many, boughs, cross):
    left = cross
    place = 0
    while place < len(left):
        if first_breaking(many, boughs, left, place) is None:
            left = without_place(left, place)
        else:
            place = place + 1
    return left


def first_breaking(many, boughs, cross, place):
    for some in wares((many, boughs, without_place(cross, place))):
        if not keeps(cross[place], some):
            return some
    return None


def without_place(cross, place):
    return cross[:place] + cross[place + 1:]
