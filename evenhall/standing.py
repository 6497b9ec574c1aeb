"""Standing orders: what is to be booked on days that come again."""

from evenhall.bookings import need_form
from evenhall.days import is_day, is_month, month_of, stepped
from evenhall.errors import BadCount, BadDay, BadName, BadNote, NoOrder, Twice
from evenhall.words import is_among, is_name, is_note


def days_from(first, every, times):
    month = month_of(first)
    return [stepped(first, every * turn) for turn in range(times) if is_month(month + every * turn)]


class StandingOrder:
    def __init__(self, first, every, times, note, rows):
        self.agreed = (first, every, times, note, tuple(rows))
        self.all_days = days_from(first, every, times)
        # How many of the days were gone through.
        self.gone = 0


class Standing:
    def __init__(self):
        self.by_name = {}

    def put(self, name, first, every, times, note, rows):
        if not is_name(name):
            raise BadName("this is no name")
        if not is_day(first):
            raise BadDay("this is no day")
        if not is_among(every, 1, 120) or not is_among(times, 1, 1000):
            raise BadCount("every is 1 to 120 months, times are 1 to 1000")
        if not is_note(note):
            raise BadNote("this is no note")
        need_form(rows)
        if name in self.by_name:
            raise Twice("there is such a standing order")
        self.by_name[name] = StandingOrder(first, every, times, note, rows)

    def order(self, name):
        if not isinstance(name, str) or name not in self.by_name:
            raise NoOrder("there is no such standing order")
        return self.by_name[name]

    def drop(self, name):
        self.order(name)
        self.by_name.pop(name)

    def names(self):
        return sorted(self.by_name)

    def terms(self, name):
        return self.order(name).agreed

    def done(self, name):
        return self.order(name).gone

    def step(self, name):
        order = self.order(name)
        order.gone = min(order.gone + 1, len(order.all_days))

    def days(self, name, until):
        order = self.order(name)
        return [day for day in order.all_days[order.gone:] if day <= until]
