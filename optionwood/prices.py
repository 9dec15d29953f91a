"""The best buy, with trees of bounds that show that there is no better one."""

from optionwood.cases import cases, is_tree, is_ware_leaf, told_tree
from optionwood.sets import options_of, with_option
from optionwood.ties import every_tie, least_sum
from optionwood.wares import wares


def price_of(prices, some):
    return sum([prices[k] for k in options_of(some)])


def best(wood, prices):
    root = with_option(0, 0)
    sold = wares(wood)
    if len(sold) == 0:
        return ("none", cases(wood, root, 0))
    # Of several as cheap the least number comes first, as the wares rise.
    ware = min(sold, key=lambda some: price_of(prices, some))
    price = price_of(prices, ware)
    tree = told_tree(wood, every_tie(wood), root, 0, lambda yes, no: dear_leaf(prices, price, yes, no))
    return ("best", ware, price, tree)


def are_bounds(wood, prices, price, tree):
    root = with_option(0, 0)
    return is_tree(wood, root, 0, tree, lambda word, yes, no: is_bound_leaf(wood, prices, price, word, yes, no))


def is_dear(prices, price, yes, no):
    return least_sum(list(enumerate(prices)), yes, no) >= price


def dear_leaf(prices, price, yes, no):
    if is_dear(prices, price, yes, no):
        return ("dear",)
    return None


def is_bound_leaf(wood, prices, price, word, yes, no):
    if word == "dear":
        return is_dear(prices, price, yes, no)
    return is_ware_leaf(wood, word, yes, no) and price_of(prices, yes) >= price
