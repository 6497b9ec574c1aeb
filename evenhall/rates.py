"""Quotes of currencies."""

from evenhall.days import is_day
from evenhall.errors import BadCurrency, BadDay, BadRate
from evenhall.money import is_currency
from evenhall.words import is_among


def is_coin_count(thing):
    return is_among(thing, 1, 10 ** 9)


class Rates:
    def __init__(self):
        # Under each two currencies, the first one in the order of texts ahead, by days what was quoted.
        self.by_pair = {}
        # Under each currency those that were ever quoted with it.
        self.beside = {}

    def quote(self, day, one, p, other, q):
        if not is_day(day):
            raise BadDay("this is no day")
        if not is_currency(one) or not is_currency(other) or one == other:
            raise BadCurrency("these are not two currencies")
        if not is_coin_count(p) or not is_coin_count(q):
            raise BadRate("a rate has two numbers from 1 on")
        if one < other:
            self.keep(day, (one, other), (p, q))
        else:
            self.keep(day, (other, one), (q, p))

    def keep(self, day, pair, worth):
        by_day = self.by_pair.setdefault(pair, {})
        by_day[day] = worth
        self.link(pair[0], pair[1])
        self.link(pair[1], pair[0])

    def link(self, currency, other):
        others = self.beside.setdefault(currency, {})
        others[other] = True

    def newest(self, one, other, day):
        if other < one:
            worth = self.newest(other, one, day)
            return None if worth is None else (worth[1], worth[0])
        by_day = self.by_pair.get((one, other), {})
        told_by_then = [quoted for quoted in by_day if quoted <= day]
        if len(told_by_then) == 0:
            return None
        return by_day[max(told_by_then)]

    def neighbours(self, currency, day):
        others = sorted(self.beside.get(currency, {}))
        return [other for other in others if self.newest(currency, other, day) is not None]

    def currencies(self):
        return sorted(self.beside)

    def quotes(self):
        told = []
        for pair, by_day in self.by_pair.items():
            for day, worth in by_day.items():
                told.append((day, pair[0], worth[0], pair[1], worth[1]))
        return sorted(told)
