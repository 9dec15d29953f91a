"""Choosing step by step, with nothing offered that leads to no ware."""

from optionwood.cases import cases_of
from optionwood.errors import NoOffer, NoWares
from optionwood.sets import open_options, with_option
from optionwood.standing import bars, least_ties, left_without, tie_others
from optionwood.wares import first_keeping, first_ware


class Choice:
    def __init__(self, wood):
        if first_ware_at(wood, []) is None:
            raise NoWares("the wood is void")
        self.wood = wood
        self.picks = []

    def stand(self):
        return stand_of(self.picks)

    def chosen(self):
        return list(self.picks)

    def offers(self):
        pairs = []
        for k in open_at(self.wood, self.picks):
            pairs.extend([(k, False), (k, True)])
        return [pair for pair in pairs if leads_on(self.wood, self.picks, pair)]

    def choose(self, k, value):
        if k not in open_at(self.wood, self.picks) or not leads_on(self.wood, self.picks, (k, value)):
            raise NoOffer("that is not offered")
        self.picks.append((k, value))

    def take_back(self, k):
        if k not in [option for option, value in self.picks]:
            raise NoOffer("that was not chosen")
        self.picks = [pick for pick in self.picks if pick[0] != k]

    def ware(self):
        return first_ware_at(self.wood, self.picks)

    def why(self, k, value):
        if k not in open_at(self.wood, self.picks):
            raise NoOffer("that option is not to be chosen now")
        if leads_on(self.wood, self.picks, (k, value)):
            return None
        return why_barred(self.wood, self.picks, (k, value))


# A pick is a tuple (option, value); a list of picks tells a stand, in which option 0 always comes.


def stand_of(picks):
    yes = with_option(0, 0)
    no = 0
    for k, value in picks:
        if value:
            yes = with_option(yes, k)
        else:
            no = with_option(no, k)
    return (yes, no)


def open_at(wood, picks):
    stand = stand_of(picks)
    return open_options(wood[0], stand[0], stand[1])


def first_ware_at(wood, picks):
    stand = stand_of(picks)
    return first_ware(wood, stand[0], stand[1])


def leads_on(wood, picks, pick):
    return first_ware_at(wood, picks + [pick]) is not None


def why_barred(wood, picks, asked):
    stand = stand_of(picks + [asked])
    ties = least_ties(wood, stand[0], stand[1])
    left = least_picks(wood, ties, sorted(picks), asked)
    stand = stand_of(left + [asked])
    tree = cases_of(wood, ties, stand[0], stand[1])
    others = tie_others(wood, ties, stand[0], stand[1]) + pick_others(wood, ties, left, asked)
    return (ties, left, tree, others)


def least_picks(wood, ties, picks, asked):
    left = picks
    for pick in picks:
        fewer = left_without(left, pick)
        stand = stand_of(fewer + [asked])
        if bars(wood, ties, stand[0], stand[1]):
            left = fewer
    return left


def pick_others(wood, ties, picks, asked):
    others = []
    for pick in picks:
        stand = stand_of(left_without(picks, pick) + [asked])
        # Here the ties bar the stand that has the pick, too: so what keeps them has its option otherwise.
        others.append((pick, first_keeping(wood, ties, stand[0], stand[1])))
    return others
