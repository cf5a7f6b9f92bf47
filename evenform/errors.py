"""The refusals: one class for each, all straight beneath EvenError."""


class EvenError(ValueError):
    pass


class BadCount(EvenError):
    pass


class BadPowers(EvenError):
    pass


class TooGreat(EvenError):
    pass


class BadRow(EvenError):
    pass


class UnlikeWeights(EvenError):
    pass


class TooLong(EvenError):
    pass


class NoKind(EvenError):
    pass


class NoText(EvenError):
    pass


class NoLine(EvenError):
    pass


class BadName(EvenError):
    pass


class NoName(EvenError):
    pass


class Uneven(EvenError):
    def __init__(self, place, powers):
        EvenError.__init__(self, "exchanging two unknowns changes the polynomial")
        self.place = place
        self.powers = powers


class NotBy(EvenError):
    def __init__(self, row):
        EvenError.__init__(self, "the kind of telling does not allow the row")
        self.row = row
