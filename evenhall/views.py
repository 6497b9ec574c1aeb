"""Views: what all accounts are worth in one currency."""

from evenhall.chains import converted
from evenhall.days import is_day
from evenhall.errors import BadCurrency, BadDay
from evenhall.money import is_currency
from evenhall.paths import above
from evenhall.reports import balances


def own_values(chart, journal, rates, currency, day):
    own = {}
    for path, held, amount in balances(chart, journal, day):
        own[path] = own.get(path, 0) + converted(rates, amount, held, currency, day)
    return own


def values_within(own):
    within = {}
    for path, amount in own.items():
        for place in above(path) + [path]:
            within[place] = within.get(place, 0) + amount
    return within


def valued(chart, journal, rates, currency, day):
    if not is_currency(currency):
        raise BadCurrency("this is no currency")
    if not is_day(day):
        raise BadDay("this is no day")
    own = own_values(chart, journal, rates, currency, day)
    within = values_within(own)
    return [(path, own.get(path, 0), within.get(path, 0)) for path in chart.accounts()]
