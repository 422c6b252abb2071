"""The refusals of the program, one class each."""


class VeilError(ValueError):
    pass


class BadTable(VeilError):
    pass


class Nought(VeilError):
    pass


class AlikePoints(VeilError):
    pass


class TooFew(VeilError):
    pass


class BadSteps(VeilError):
    pass


class BadInputs(VeilError):
    pass


class BadChance(VeilError):
    pass


class BadHands(VeilError):
    pass


class NoVeil(VeilError):
    pass
