"""Statements: what was booked within an account, line by line."""

from evenhall.errors import NoAccount
from evenhall.paths import is_within


def amounts_within(booking, path, currency):
    return [row[2] for row in booking[3] if row[1] == currency and is_within(row[0], path)]


def statement(chart, journal, path, currency, first, last):
    if not chart.has(path):
        raise NoAccount("there is no such account")
    opening = 0
    moves = []
    for booking in journal.every():
        amounts = amounts_within(booking, path, currency)
        if booking[1] < first:
            opening = opening + sum(amounts)
        elif booking[1] <= last and len(amounts) > 0:
            moves.append((booking[1], booking[0], sum(amounts)))
    lines = []
    balance = opening
    for day, number, amount in sorted(moves):
        balance = balance + amount
        lines.append((number, day, amount, balance))
    return (opening, lines)
