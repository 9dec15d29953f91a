"""Trees of cases: which sets of a stand are wares, and which tie each of the others breaks."""

from optionwood.sets import open_options, with_option
from optionwood.ties import every_tie, first_sure_broken, is_ware, sure_broken
from optionwood.woods import many_ties, tie_at


def cases(wood, yes, no):
    return cases_of(wood, every_tie(wood), yes, no)


# A bar is shown by its own ties alone, under the numbers that they have in the wood: so the tree is told
# for a rising list of these numbers.


def cases_of(wood, ties, yes, no):
    broken = first_sure_broken(wood, ties, yes, no)
    if broken is not None:
        return ("broken", broken)
    left = open_options(wood[0], yes, no)
    if len(left) == 0:
        return ("ware",)
    k = left[0]
    one = cases_of(wood, ties, with_option(yes, k), no)
    other = cases_of(wood, ties, yes, with_option(no, k))
    return ("split", k, one, other)


def are_cases(wood, yes, no, tree):
    left = open_options(wood[0], yes, no)
    if tree[0] == "ware":
        return len(left) == 0 and is_ware(wood, yes)
    if tree[0] == "broken":
        return is_broken_leaf(wood, yes, no, tree[1])
    if tree[0] != "split" or tree[1] not in left:
        return False
    k = tree[1]
    if not are_cases(wood, with_option(yes, k), no, tree[2]):
        return False
    return are_cases(wood, yes, with_option(no, k), tree[3])


def is_broken_leaf(wood, yes, no, t):
    return 0 <= t < many_ties(wood) and sure_broken(tie_at(wood, t), yes, no)


def wares_in(yes, tree):
    if tree[0] == "ware":
        return [yes]
    if tree[0] == "split":
        return wares_in(with_option(yes, tree[1]), tree[2]) + wares_in(yes, tree[3])
    return []
