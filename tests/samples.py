"""Woods to try, and the document's words gone through set by set, apart from the program's own ways."""

import itertools
import random

from optionwood import errors
from optionwood.woods import wood_of

FIFTY = int("7" * 50)

# 0 is a bicycle, 1 its frame, 2 and 3 two sorts of frame, 4 a lamp.
BICYCLE = wood_of(
    5,
    [(0, 1, 1, (1,)), (1, 1, 1, (2, 3)), (0, 0, 1, (4,))],
    [("needs", 4, 2), ("most", 10, ((2, 7), (4, 3)))],
)
BICYCLE_NAMES = ["bike", "frame", "steel", "alu", "lamp"]
BICYCLE_TEXT = "\n".join(
    (
        "ware bike frame steel alu lamp",
        "bike must frame",
        "frame one steel alu",
        "bike may lamp",
        "lamp needs steel",
        "most 10 of 7 steel 3 lamp",
    )
)
NINE_BOUGHS = [(0, 1, 2, (1, 2, 5)), (0, 0, 1, (3,)), (2, 2, 2, (4, 8)), (3, 0, 2, (6, 7))]
NINE = wood_of(9, NINE_BOUGHS, [])
LONE = wood_of(1, [], [])


REFUSALS = tuple(
    getattr(errors, name)
    for name in ("NoWood", "NoCount", "NoWares", "NoOffer", "Unlike", "NoText", "NoRow", "NoName")
)


def check_refused(case, kind, call, *given):
    """A test case sees the call refused with this kind of refusal, and with none of the others."""
    with case.assertRaises(errors.WoodError) as caught:
        call(*given)
    case.assertIsInstance(caught.exception, ValueError)
    case.assertEqual([one for one in REFUSALS if isinstance(caught.exception, one)], [kind], given)


def set_of(*options):
    return sum(2 ** k for k in options)


def options_in(some):
    return [k for k in range(20) if some // 2 ** k % 2 == 1]


def is_kept(tie, some):
    having = set(options_in(some))
    if tie[0] == "needs":
        return not (tie[1] in having and tie[2] not in having)
    if tie[0] == "bans":
        return not {tie[1], tie[2]} <= having
    if tie[0] == "most":
        return sum(number for k, number in tie[2] if k in having) <= tie[1]
    up, low, high, kids = tie
    come = having & set(kids)
    return len(come) in range(low, high + 1) if up in having else not come


def ties_of(wood):
    return wood[1] + wood[2]


def stands(many):
    for marks in itertools.product("yn-", repeat=many):
        yes = set_of(*[k for k in range(many) if marks[k] == "y"])
        yield yes, set_of(*[k for k in range(many) if marks[k] == "n"])


def stands_with_root(many):
    return [(yes, no) for yes, no in stands(many) if yes % 2 == 1]


def sets_in(many, yes, no):
    return [some for some in range(2 ** many) if some & yes == yes and some & no == 0]


def keeping(wood, ties, yes, no):
    """The sets in the stand that keep these of the wood's ties, rising."""
    told = [ties_of(wood)[t] for t in ties]
    return [some for some in sets_in(wood[0], yes, no) if all(is_kept(tie, some) for tie in told)]


def wares_at(wood, yes, no):
    return [some for some in keeping(wood, range(len(ties_of(wood))), yes, no) if some % 2 == 1]


def is_broken_for_sure(wood, t, yes, no):
    return keeping(wood, [t], yes, no) == []


def open_at(wood, yes, no):
    return [k for k in range(wood[0]) if k not in options_in(yes | no)]


def ware_leaf(wood, yes, no):
    return None if open_at(wood, yes, no) else ("ware",)


def grown(wood, ties, yes, no, pick=min, leaf_at=ware_leaf):
    """The tree of cases for these ties, split on the open option that is picked, with these leaves."""
    for t in ties:
        if is_broken_for_sure(wood, t, yes, no):
            return ("broken", t)
    leaf = leaf_at(wood, yes, no)
    if leaf:
        return leaf
    k = pick(open_at(wood, yes, no))
    one = grown(wood, ties, yes + 2 ** k, no, pick, leaf_at)
    return ("split", k, one, grown(wood, ties, yes, no + 2 ** k, pick, leaf_at))


def is_right_ware_leaf(wood, leaf, yes, no):
    return leaf == ("ware",) and not open_at(wood, yes, no) and wares_at(wood, yes, no) == [yes]


def is_right_tree(wood, yes, no, tree, is_leaf=is_right_ware_leaf):
    if tree[0] == "broken":
        return tree[1] in range(len(ties_of(wood))) and is_broken_for_sure(wood, tree[1], yes, no)
    if tree[0] != "split":
        return is_leaf(wood, tree, yes, no)
    k = tree[1]
    if k not in open_at(wood, yes, no):
        return False
    one = is_right_tree(wood, yes + 2 ** k, no, tree[2], is_leaf)
    return one and is_right_tree(wood, yes, no + 2 ** k, tree[3], is_leaf)


def changed(chance, tree, leaves):
    """The tree with one number, or one leaf, put otherwise."""
    if tree[0] == "split" and chance.randrange(4):
        side = chance.choice((2, 3))
        return tree[:side] + (changed(chance, tree[side], leaves),) + tree[side + 1:]
    if tree[0] == "split" and chance.randrange(2):
        return ("split", chance.randint(-2, 5)) + tree[2:]
    split = ("split", chance.randint(0, 4), tree, tree)
    return chance.choice((chance.choice(leaves), ("broken", chance.randint(-3, 9)), split))


def bar_of(wood, yes, no):
    left = list(range(len(ties_of(wood))))
    if keeping(wood, left, yes, no):
        return None
    for t in list(left):
        if not keeping(wood, [u for u in left if u != t], yes, no):
            left.remove(t)
    others = [(t, keeping(wood, [u for u in left if u != t], yes, no)[0]) for t in left]
    return (left, grown(wood, left, yes, no), others)


def some_boughs(chance, many):
    kids_of = {}
    for k in range(1, many):
        # an option has up to two boughs
        kids_of.setdefault((chance.randrange(k), chance.randrange(2)), []).append(k)
    boughs = []
    for (up, place), kids in kids_of.items():
        high = chance.randint(1, len(kids))
        boughs.append((up, chance.randint(0, high), high, tuple(kids)))
    chance.shuffle(boughs)
    return boughs


def some_cross_tie(chance, many):
    kind = chance.choice(("needs", "bans", "most"))
    if kind != "most" and many > 1:
        return (kind,) + tuple(chance.sample(range(many), 2))
    scale = chance.choice((1, 1, FIFTY))
    options = sorted(chance.sample(range(many), chance.randint(1, many)))
    pairs = tuple((k, scale * chance.randint(-3, 4)) for k in options)
    return ("most", scale * chance.randint(-2, 6), pairs)


def some_woods(seed, how_many, most_options, most_cross=8):
    """Woods of all sizes; the seed settles them."""
    chance = random.Random(seed)
    woods = []
    for place in range(how_many):
        many = 1 + place % most_options
        cross = [some_cross_tie(chance, many) for tie in range(chance.randint(0, most_cross))]
        woods.append(wood_of(many, some_boughs(chance, many), cross))
    return woods


def loosened(wood):
    """The wood with boughs that any number of their kids keep."""
    return wood_of(wood[0], [(up, 0, len(kids), kids) for up, low, high, kids in wood[1]], list(wood[2]))


def woven(chance):
    """A wood with sums that several choices together use up, and needs that hand them on."""
    chain = [("needs", b, a) for a, b in ((1, 4), (4, 2), (5, 6), (3, 5)) if chance.randrange(3)]
    sums = []
    for tie in range(chance.randint(1, 2)):
        pairs = tuple((k, chance.randint(1, 3)) for k in sorted(chance.sample(range(1, 7), 4)))
        sums.append(("most", sum(number for k, number in pairs) - chance.randint(1, 3), pairs))
    return wood_of(7, [(0, 0, 6, (1, 2, 3, 4, 5, 6))], chance.sample(chain + sums, len(chain + sums)))


def some_names(chance, many):
    names = []
    while len(names) < many:
        name = "".join(chance.choice("abz") for sign in range(chance.randint(1, 8)))
        if name not in names:
            names.append(name)
    return names
