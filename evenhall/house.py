"""The house: one of each, and the orders that it did."""

from evenhall.budgets import Budgets
from evenhall.chart import Chart
from evenhall.journal import Gate, Journal
from evenhall.rates import Rates
from evenhall.seals import Seals
from evenhall.standing import Standing
from evenhall.sums import Sums


class House:
    def __init__(self):
        self.chart = Chart()
        self.rates = Rates()
        self.gate = Gate()
        self.journal = Journal()
        self.sums = Sums()
        self.seals = Seals()
        self.budgets = Budgets()
        self.plans = Standing()
        self.record = []
        self.orders = []

    def remember(self, order):
        self.record.append(order)
        # What is shown is a new list each time: whoever holds an earlier one, or changes it, changes nothing here.
        self.orders = list(self.record)
