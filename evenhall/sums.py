"""Sums of accounts by months."""

from evenhall.days import month_of


class Sums:
    def __init__(self):
        # Under each path and currency with rows the sums by months.
        self.by_place = {}

    def put(self, booking):
        month = month_of(booking[1])
        for path, currency, amount in booking[3]:
            by_month = self.by_place.setdefault((path, currency), {})
            by_month[month] = by_month.get(month, 0) + amount

    def months_of(self, path, currency):
        return self.by_place.get((path, currency), {})

    def own(self, path, currency, first, last):
        return sum([amount for month, amount in self.months_of(path, currency).items() if first <= month <= last])

    def standing(self, path, currency, month):
        return sum([amount for other, amount in self.months_of(path, currency).items() if other <= month])

    def currencies(self, path):
        return sorted([place[1] for place in self.by_place if place[0] == path])

    def all_sums(self):
        told = []
        for place in sorted(self.by_place):
            by_month = self.by_place[place]
            # A month that comes to nought tells no more than one without rows.
            told.append((place, [(month, by_month[month]) for month in sorted(by_month) if by_month[month] != 0]))
        return told
