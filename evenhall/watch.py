"""Budgets watched: what was done of them, what is left, and which are over."""

from evenhall.days import first_day, last_day
from evenhall.statements import amounts_within


def sum_within(journal, path, currency, first, last):
    bookings = [booking for booking in journal.every() if first <= booking[1] <= last]
    return sum([sum(amounts_within(booking, path, currency)) for booking in bookings])


def done_by(budgets, journal, name, month):
    terms = budgets.terms(name)
    last = min(month, terms[3])
    return sum_within(journal, terms[0], terms[1], first_day(terms[2]), last_day(last))


def left(budgets, journal, name, month):
    return budgets.planned_by(name, month) - done_by(budgets, journal, name, month)


def over(budgets, journal, month):
    # A budget that begins later has nothing planned and nothing done yet, so it is never among them.
    rests = [(name, left(budgets, journal, name, month)) for name in budgets.names()]
    return [(name, -rest) for name, rest in rests if rest < 0]
