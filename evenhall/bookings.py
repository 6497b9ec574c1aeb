"""Rows of bookings: their form, what they ask of the chart, and what they have together."""

from evenhall.errors import BadCurrency, BadRow, NotOpen, Uneven
from evenhall.money import is_amount, is_currency


def is_row(thing):
    if not isinstance(thing, tuple) or len(thing) != 3:
        return False
    return isinstance(thing[0], str) and is_currency(thing[1]) and is_amount(thing[2]) and thing[2] != 0


def need_form(rows):
    if not isinstance(rows, list) or not 2 <= len(rows) <= 200:
        raise BadRow("rows are a list of 2 to 200 things")
    for row in rows:
        if not is_row(row):
            raise BadRow("a row is a path, a currency and an amount other than nought")


def need_account(chart, day, path, currency):
    # What is no account the chart refuses itself.
    if not chart.is_open(path, day):
        raise NotOpen("the account isn't open on the day")
    if chart.currency_of(path) is not None and chart.currency_of(path) != currency:
        raise BadCurrency("the account holds another currency")


def turned(rows):
    return tuple([(path, currency, -amount) for path, currency, amount in rows])


def sums_of(rows):
    together = {}
    for path, currency, amount in rows:
        together[(path, currency)] = together.get((path, currency), 0) + amount
    return [(path, currency, together[(path, currency)]) for path, currency in sorted(together)
            if together[(path, currency)] != 0]


def need_even(rows):
    # All rows as of one path: what is left then, rising, are the currencies that don't come to nought.
    uneven = sums_of([("", row[1], row[2]) for row in rows])
    if len(uneven) > 0:
        raise Uneven(uneven[0][1])


def need_rows(chart, day, rows):
    need_form(rows)
    for path, currency, amount in rows:
        need_account(chart, day, path, currency)
    need_even(rows)
