"""Budgets: what is planned for some months within a path."""

from evenhall.days import is_month
from evenhall.errors import BadAmount, BadCurrency, BadMonth, BadName, BadPath, BadShare, NoBudget, Twice
from evenhall.money import is_amount, is_currency
from evenhall.paths import is_path
from evenhall.shares import shared
from evenhall.words import is_name


def are_months(first, last):
    return is_month(first) and is_month(last) and first <= last < first + 60


class Budget:
    def __init__(self, agreed, parts):
        self.agreed = agreed
        self.first = agreed[2]
        self.parts = parts


class Budgets:
    def __init__(self):
        self.by_name = {}

    def put(self, name, path, currency, first, last, total, weights):
        if not is_name(name):
            raise BadName("this is no name")
        if not is_path(path):
            raise BadPath("this is no path")
        if not is_currency(currency):
            raise BadCurrency("this is no currency")
        if not are_months(first, last):
            raise BadMonth("these are no months from a first to a last one, 60 at most")
        if not is_amount(total):
            raise BadAmount("this is no amount")
        parts = shared(total, weights)
        if len(parts) != last - first + 1:
            raise BadShare("there is to be one weight for each month")
        if name in self.by_name:
            raise Twice("there is such a budget")
        self.by_name[name] = Budget((path, currency, first, last, total, tuple(weights)), parts)

    def budget(self, name):
        if not isinstance(name, str) or name not in self.by_name:
            raise NoBudget("there is no such budget")
        return self.by_name[name]

    def drop(self, name):
        self.budget(name)
        self.by_name.pop(name)

    def names(self):
        return sorted(self.by_name)

    def terms(self, name):
        return self.budget(name).agreed

    def planned(self, name, month):
        return self.planned_by(name, month) - self.planned_by(name, month - 1)

    def planned_by(self, name, month):
        budget = self.budget(name)
        # A month ahead of the first one must not count from the parts' end.
        return sum(budget.parts[:max(0, month - budget.first + 1)])
