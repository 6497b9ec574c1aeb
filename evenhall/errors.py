"""The refusals: one class for each, all straight under HouseError."""


class HouseError(ValueError):
    pass


class BadName(HouseError):
    pass


class BadNote(HouseError):
    pass


class BadDay(HouseError):
    pass


class BadMonth(HouseError):
    pass


class BadCount(HouseError):
    pass


class BadAmount(HouseError):
    pass


class BadCurrency(HouseError):
    pass


class BadShare(HouseError):
    pass


class BadPath(HouseError):
    pass


class BadKind(HouseError):
    pass


class NoAccount(HouseError):
    pass


class Twice(HouseError):
    pass


class NotOpen(HouseError):
    pass


class HasBelow(HouseError):
    pass


class BadRate(HouseError):
    pass


class NoRate(HouseError):
    pass


class BadRow(HouseError):
    pass


class Uneven(HouseError):
    def __init__(self, currency):
        self.currency = currency


class NoBooking(HouseError):
    pass


class Undone(HouseError):
    pass


class Closed(HouseError):
    pass


class NotNext(HouseError):
    pass


class NoBudget(HouseError):
    pass


class NoOrder(HouseError):
    pass


class BadOrder(HouseError):
    pass
