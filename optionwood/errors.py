"""What the program refuses, one class for each refusal."""


class WoodError(ValueError):
    pass


class NoWood(WoodError):
    pass


class NoCount(WoodError):
    pass


class NoWares(WoodError):
    pass


class NoOffer(WoodError):
    pass


class Unlike(WoodError):
    pass


class NoText(WoodError):
    pass


class NoRow(WoodError):
    pass


class NoName(WoodError):
    pass
