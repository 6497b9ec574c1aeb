import unittest

from evenhall.budgets import Budgets
from evenhall.chart import Chart
from evenhall.doing import carry_out
from evenhall.house import House
from evenhall.journal import Gate, Journal
from evenhall.rates import Rates
from evenhall.seals import Seals
from evenhall.standing import Standing
from evenhall.sums import Sums


class Houses(unittest.TestCase):
    def test_one_of_each(self):
        house = House()
        for field, kind in (("chart", Chart), ("rates", Rates), ("gate", Gate), ("journal", Journal), ("sums", Sums),
                            ("seals", Seals), ("budgets", Budgets), ("plans", Standing)):
            self.assertIs(type(getattr(house, field)), kind, field)
        self.assertEqual(house.orders, [])
        self.assertIs(type(house.orders), list)

    def test_a_new_one_has_nothing(self):
        house = House()
        self.assertEqual((house.chart.accounts(), house.rates.quotes(), house.gate.closed(), house.journal.every(),
                          house.seals.every(), house.budgets.names(), house.plans.names()), ([], [], None, [], [], [], []))

    def test_each_has_its_own(self):
        one = House()
        other = House()
        carry_out(one, ("top", "a", "have"))
        self.assertEqual((other.chart.accounts(), other.orders), ([], []))
        self.assertEqual((one.chart.accounts(), one.orders), (["a"], [("top", "a", "have")]))


if __name__ == "__main__":
    unittest.main()
