"""The chart: the tree of accounts."""

from evenhall.days import is_day
from evenhall.errors import BadCurrency, BadDay, BadKind, BadName, BadPath, HasBelow, NoAccount, NotOpen, Twice
from evenhall.money import is_currency
from evenhall.paths import above, is_path, names_of
from evenhall.words import is_name

KINDS = ("have", "owe", "own", "gain", "cost")


class Account:
    def __init__(self, kind, currency, first):
        self.kind = kind
        self.currency = currency
        self.first = first
        # The day from which on it is shut, once it is.
        self.until = None
        # The paths right beneath.
        self.below = []

    def stands_on(self, day):
        return self.first <= day and (self.until is None or day < self.until)

    def stands_later(self, day):
        # A first day behind this one doesn't help: what isn't shut by now will be open on some day.
        return self.until is None or day < self.until


class Chart:
    def __init__(self):
        self.by_path = {}

    def add_top(self, name, kind):
        if not is_name(name):
            raise BadName("this is no name")
        if kind not in KINDS:
            raise BadKind("there is no such kind")
        if name in self.by_path:
            raise Twice("there is such an account")
        self.by_path[name] = Account(kind, None, 0)

    def add(self, path, currency, day):
        if len(names_of(path)) == 1:
            raise BadPath("a single name is a top")
        if currency is not None and not is_currency(currency):
            raise BadCurrency("this is no currency")
        if not is_day(day):
            raise BadDay("this is no day")
        if path in self.by_path:
            raise Twice("there is such an account")
        upper = self.account(above(path)[-1])
        if upper.until is not None or not upper.stands_on(day):
            raise NotOpen("the account above isn't open")
        upper.below.append(path)
        self.by_path[path] = Account(upper.kind, currency, day)

    def shut(self, path, day):
        if not is_path(path):
            raise BadPath("this is no path")
        account = self.account(path)
        if not is_day(day) or day <= account.first:
            raise BadDay("this is no day behind the account's first one")
        if account.until is not None:
            raise NotOpen("the account was shut")
        if any([self.by_path[lower].stands_later(day) for lower in account.below]):
            raise HasBelow("an account beneath is open then")
        account.until = day

    def has(self, path):
        return isinstance(path, str) and path in self.by_path

    def account(self, path):
        if not self.has(path):
            raise NoAccount("there is no such account")
        return self.by_path[path]

    def kind_of(self, path):
        return self.account(path).kind

    def currency_of(self, path):
        return self.account(path).currency

    def span_of(self, path):
        account = self.account(path)
        return (account.first, account.until)

    def is_open(self, path, day):
        return self.account(path).stands_on(day)

    def beneath(self, path):
        return sorted(self.account(path).below)

    def accounts(self):
        return sorted(self.by_path)
