"""The refusals: one class for each, all straight under HouseError, with the words by which a house answers it."""


class HouseError(ValueError):
    pass


class BadName(HouseError):
    def small_words(self):
        return "bad name"


class BadNote(HouseError):
    def small_words(self):
        return "bad note"


class BadDay(HouseError):
    def small_words(self):
        return "bad day"


class BadMonth(HouseError):
    def small_words(self):
        return "bad month"


class BadCount(HouseError):
    def small_words(self):
        return "bad count"


class BadAmount(HouseError):
    def small_words(self):
        return "bad amount"


class BadCurrency(HouseError):
    def small_words(self):
        return "bad currency"


class BadShare(HouseError):
    def small_words(self):
        return "bad share"


class BadPath(HouseError):
    def small_words(self):
        return "bad path"


class BadKind(HouseError):
    def small_words(self):
        return "bad kind"


class NoAccount(HouseError):
    def small_words(self):
        return "no account"


class Twice(HouseError):
    def small_words(self):
        return "twice"


class NotOpen(HouseError):
    def small_words(self):
        return "not open"


class HasBelow(HouseError):
    def small_words(self):
        return "has below"


class BadRate(HouseError):
    def small_words(self):
        return "bad rate"


class NoRate(HouseError):
    def small_words(self):
        return "no rate"


class BadRow(HouseError):
    def small_words(self):
        return "bad row"


class Uneven(HouseError):
    def __init__(self, currency):
        self.currency = currency

    def small_words(self):
        return "uneven " + self.currency


class NoBooking(HouseError):
    def small_words(self):
        return "no booking"


class Undone(HouseError):
    def small_words(self):
        return "undone"


class Closed(HouseError):
    def small_words(self):
        return "closed"


class NotNext(HouseError):
    def small_words(self):
        return "not next"


class NoBudget(HouseError):
    def small_words(self):
        return "no budget"


class NoOrder(HouseError):
    def small_words(self):
        return "no order"


class BadOrder(HouseError):
    def small_words(self):
        return "bad order"
