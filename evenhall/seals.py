"""Seals: what was so when a month was closed."""

from evenhall.days import is_month, last_day
from evenhall.errors import BadMonth
from evenhall.reports import balances, bookings_up_to


def seal(chart, journal, month):
    if not is_month(month):
        raise BadMonth("this is no month")
    day = last_day(month)
    return (month, len(bookings_up_to(journal, day)), tuple(balances(chart, journal, day)))


def holds(chart, journal, told):
    # Of what is no month nothing is told, so nothing told of it holds.
    return is_month(told[0]) and seal(chart, journal, told[0]) == told


class Seals:
    def __init__(self):
        self.told_seals = []

    def put(self, told):
        self.told_seals.append(told)

    def every(self):
        return list(self.told_seals)
