"""Reports: what each account has, by itself and with all beneath it."""

from evenhall.bookings import sums_of
from evenhall.paths import above


def rows_of(bookings):
    rows = []
    for booking in bookings:
        rows.extend(booking[3])
    return rows


def bookings_up_to(journal, day):
    return [booking for booking in journal.every() if booking[1] <= day]


def lifted(rows):
    # A row counts within its own path and within each one above.
    told = []
    for path, currency, amount in rows:
        for place in above(path) + [path]:
            told.append((place, currency, amount))
    return told


def by_paths(rows):
    told = {}
    for path, currency, amount in sums_of(rows):
        amounts = told.setdefault(path, [])
        amounts.append((currency, amount))
    return told


def report(chart, journal, first, last):
    rows = rows_of([booking for booking in bookings_up_to(journal, last) if first <= booking[1]])
    own = by_paths(rows)
    within = by_paths(lifted(rows))
    return [(path, own.get(path, []), within.get(path, [])) for path in chart.accounts()]


def balances(chart, journal, day):
    return sums_of(rows_of(bookings_up_to(journal, day)))
