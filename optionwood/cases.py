"""Trees of cases: which sets of a stand are wares, and which tie each of the others breaks."""

from optionwood.sets import open_options, with_option
from optionwood.ties import every_tie, first_sure_broken, is_ware, sure_broken
from optionwood.woods import many_ties, tie_at


def cases(wood, yes, no):
    return cases_of(wood, every_tie(wood), yes, no)


# A bar is shown by its own ties alone, under the numbers that they have in the wood: so the tree is told
# for a rising list of these numbers.


def cases_of(wood, ties, yes, no):
    return told_tree(wood, ties, yes, no, lambda come, gone: ware_leaf(wood, come, gone))


def ware_leaf(wood, yes, no):
    if len(open_options(wood[0], yes, no)) == 0:
        return ("ware",)
    return None


def are_cases(wood, yes, no, tree):
    return is_tree(wood, yes, no, tree, lambda word, come, gone: is_ware_leaf(wood, word, come, gone))


def is_ware_leaf(wood, word, yes, no):
    return word == "ware" and len(open_options(wood[0], yes, no)) == 0 and is_ware(wood, yes)


# Other trees differ from these in their leaves alone. So which leaf, if any, is told at a stand where no
# tie is broken for sure, and whether a leaf of that word may stand there, is asked of a function.


def told_tree(wood, ties, yes, no, leaf_at):
    broken = first_sure_broken(wood, ties, yes, no)
    if broken is not None:
        return ("broken", broken)
    leaf = leaf_at(yes, no)
    if leaf is not None:
        return leaf
    k = open_options(wood[0], yes, no)[0]
    one = told_tree(wood, ties, with_option(yes, k), no, leaf_at)
    other = told_tree(wood, ties, yes, with_option(no, k), leaf_at)
    return ("split", k, one, other)


def is_tree(wood, yes, no, tree, is_leaf):
    if tree[0] == "broken":
        return is_broken_leaf(wood, yes, no, tree[1])
    if tree[0] != "split":
        return is_leaf(tree[0], yes, no)
    k = tree[1]
    if k not in open_options(wood[0], yes, no):
        return False
    if not is_tree(wood, with_option(yes, k), no, tree[2], is_leaf):
        return False
    return is_tree(wood, yes, with_option(no, k), tree[3], is_leaf)


def is_broken_leaf(wood, yes, no, t):
    return 0 <= t < many_ties(wood) and sure_broken(tie_at(wood, t), yes, no)


def wares_in(yes, tree):
    if tree[0] == "ware":
        return [yes]
    if tree[0] == "split":
        return wares_in(with_option(yes, tree[1]), tree[2]) + wares_in(yes, tree[3])
    return []
