"""Ties: which sets keep them, and at which stands they are broken or kept for sure."""

from optionwood.sets import has
from optionwood.woods import many_ties, tie_at


def keeps(tie, some):
    if tie[0] == "needs":
        return not has(some, tie[1]) or has(some, tie[2])
    if tie[0] == "bans":
        return not has(some, tie[1]) or not has(some, tie[2])
    if tie[0] == "most":
        return sum([number for k, number in tie[2] if has(some, k)]) <= tie[1]
    return keeps_bough(tie, some)


def keeps_bough(bough, some):
    count = count_in(bough[3], some)
    if has(some, bough[0]):
        return bough[1] <= count <= bough[2]
    return count == 0


def count_in(kids, some):
    return len([k for k in kids if has(some, k)])


def every_tie(wood):
    return list(range(many_ties(wood)))


def first_broken(wood, some):
    for t in every_tie(wood):
        if not keeps(tie_at(wood, t), some):
            return t
    return None


def is_ware(wood, some):
    return has(some, 0) and first_broken(wood, some) is None


def sure_broken(tie, yes, no):
    if tie[0] == "needs":
        return has(yes, tie[1]) and has(no, tie[2])
    if tie[0] == "bans":
        return has(yes, tie[1]) and has(yes, tie[2])
    if tie[0] == "most":
        return least_sum(tie[2], yes, no) > tie[1]
    return sure_broken_bough(tie, yes, no)


def sure_kept(tie, yes, no):
    if tie[0] == "needs":
        return has(no, tie[1]) or has(yes, tie[2])
    if tie[0] == "bans":
        return has(no, tie[1]) or has(no, tie[2])
    if tie[0] == "most":
        return greatest_sum(tie[2], yes, no) <= tie[1]
    return sure_kept_bough(tie, yes, no)


def least_sum(pairs, yes, no):
    return sum([number for k, number in pairs if has(yes, k) or (number < 0 and not has(no, k))])


def greatest_sum(pairs, yes, no):
    return sum([number for k, number in pairs if has(yes, k) or (number > 0 and not has(no, k))])


# An up is none of its own kids: so with up and without it alike, the sets in a stand have any number of
# kids from the least to the greatest.


def sure_broken_bough(bough, yes, no):
    least = count_in(bough[3], yes)
    greatest = len(bough[3]) - count_in(bough[3], no)
    some_with_up = not has(no, bough[0]) and least <= bough[2] and bough[1] <= greatest
    some_without_up = not has(yes, bough[0]) and least == 0
    return not some_with_up and not some_without_up


def sure_kept_bough(bough, yes, no):
    least = count_in(bough[3], yes)
    greatest = len(bough[3]) - count_in(bough[3], no)
    all_with_up = has(no, bough[0]) or (bough[1] <= least and greatest <= bough[2])
    all_without_up = has(yes, bough[0]) or greatest == 0
    return all_with_up and all_without_up


def first_sure_broken(wood, ties, yes, no):
    for t in ties:
        if sure_broken(tie_at(wood, t), yes, no):
            return t
    return None


def all_sure_kept(wood, yes, no):
    return all([sure_kept(tie_at(wood, t), yes, no) for t in every_tie(wood)])
