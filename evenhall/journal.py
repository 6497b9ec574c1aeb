"""The gate, which knows the closed months, and the journal, which keeps the bookings."""

from evenhall.days import is_month, month_of
from evenhall.errors import BadMonth, NoBooking, NotNext
from evenhall.words import is_among


class Gate:
    def __init__(self):
        self.last_closed = None

    def closed(self):
        return self.last_closed

    def lets(self, day):
        return self.last_closed is None or month_of(day) > self.last_closed

    def need_next(self, month):
        if not is_month(month):
            raise BadMonth("this is no month")
        if self.last_closed is not None and month != self.last_closed + 1:
            raise NotNext("months are closed one behind the other")

    def shut(self, month):
        self.need_next(month)
        self.last_closed = month


class Journal:
    def __init__(self):
        self.bookings = []
        # Under the number of each undone booking that of the one that undoes it.
        self.undoings = {}

    def put(self, day, note, rows, undoes):
        number = len(self.bookings)
        self.bookings.append((number, day, note, tuple(rows), undoes))
        if undoes is not None:
            self.undoings[undoes] = number
        return number

    def many(self):
        return len(self.bookings)

    def booking(self, number):
        if not is_among(number, 0, len(self.bookings) - 1):
            raise NoBooking("there is no such booking")
        return self.bookings[number]

    def every(self):
        return list(self.bookings)

    def undone_by(self, number):
        return self.undoings.get(self.booking(number)[0])
