"""Budgets watched: what was done of them, what is left, and which are over."""

from evenhall.days import first_day, last_day
from evenhall.paths import is_within


def sum_within(journal, path, currency, first, last):
    together = 0
    for booking in journal.every():
        if first <= booking[1] <= last:
            amounts = [row[2] for row in booking[3] if row[1] == currency and is_within(row[0], path)]
            together = together + sum(amounts)
    return together


def done_by(budgets, journal, name, month):
    terms = budgets.terms(name)
    # The months asked for may be any numbers, those whose days are looked for are the budget's own.
    last = min(month, terms[3])
    if last < terms[2]:
        return 0
    return sum_within(journal, terms[0], terms[1], first_day(terms[2]), last_day(last))


def left(budgets, journal, name, month):
    return budgets.planned_by(name, month) - done_by(budgets, journal, name, month)


def over(budgets, journal, month):
    # A budget that begins later has nothing planned and nothing done yet, so it is never among them.
    rests = [(name, left(budgets, journal, name, month)) for name in budgets.names()]
    return [(name, -rest) for name, rest in rests if rest < 0]
