"""Closing: months are closed one behind the other, the last one of a year behind a carry."""

from evenhall.bookings import sums_of, turned
from evenhall.days import last_day
from evenhall.errors import BadCurrency, BadKind, NotOpen
from evenhall.reports import balances
from evenhall.seals import seal


def carry_rows(chart, journal, path, year):
    day = last_day(12 * (year - 2000) + 11)
    carried = [row for row in balances(chart, journal, day) if chart.kind_of(row[0]) in ("gain", "cost")]
    return list(turned(carried)) + sums_of([(path, row[1], row[2]) for row in carried])


def need_keeper(chart, path, day):
    # What is no account the chart refuses itself.
    if chart.kind_of(path) != "own":
        raise BadKind("what is carried goes to an account of the kind own")
    if not chart.is_open(path, day):
        raise NotOpen("the account to carry to isn't open on the last day")


def need_currencies(chart, path, rows):
    held = chart.currency_of(path)
    if held is not None and any([row[0] == path and row[1] != held for row in rows]):
        raise BadCurrency("the account to carry to holds another currency")


def carry(chart, journal, month, path):
    day = last_day(month)
    need_keeper(chart, path, day)
    rows = carry_rows(chart, journal, path, 2000 + month // 12)
    need_currencies(chart, path, rows)
    if len(rows) > 0:
        # Straight to the journal: a carry may have any amounts, and rows of accounts that were shut.
        journal.put(day, "carry", rows, None)


def close(chart, gate, journal, seals, month, path):
    gate.need_next(month)
    if month % 12 == 11:
        carry(chart, journal, month, path)
    told = seal(chart, journal, month)
    seals.put(told)
    gate.shut(month)
    return told
