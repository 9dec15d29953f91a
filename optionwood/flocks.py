"""Flocks: options of which each ware has all or none."""

from optionwood.sets import has
from optionwood.wares import wares


def flocks(wood):
    sold = wares(wood)
    together = {}
    for k in range(wood[0]):
        together.setdefault(tuple([has(ware, k) for ware in sold]), []).append(k)
    found = list(together.values())
    return (found, parts_of(sold, [flock[0] for flock in found]))


def parts_of(sold, firsts):
    parts = []
    for place, a in enumerate(firsts):
        for b in firsts[place + 1:]:
            parts.append((a, b, first_parting(sold, a, b)))
    return parts


def first_parting(sold, a, b):
    return [ware for ware in sold if has(ware, a) != has(ware, b)][0]
