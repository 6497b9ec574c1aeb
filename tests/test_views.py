import unittest

from evenhall.journal import Journal
from evenhall.rates import Rates
from evenhall.views import valued
from things import hall, journal_of, need_order, need_refusal, no_texts, no_wholes

LAST = 146096


class Views(unittest.TestCase):
    def setUp(self):
        self.chart = hall(("have:a", None, 0), ("have:a:b", None, 0), ("have:ab", None, 0))
        self.rates = Rates()
        self.rates.quote(10, "EUR", 2, "USD", 1)

    def told(self, journal, currency, day):
        return {line[0]: line[1:] for line in valued(self.chart, journal, self.rates, currency, day)}

    def test_one_for_each_account_rising(self):
        told = valued(self.chart, Journal(), self.rates, "EUR", 10)
        self.assertEqual(told, [(path, 0, 0) for path in self.chart.accounts()])
        self.assertIs(type(told), list)
        self.assertTrue(all(type(line) is tuple for line in told))

    def test_own_and_within(self):
        journal = journal_of((10, ("have:a", "EUR", 100), ("have:a", "USD", 7), ("have:a:b", "EUR", 40), ("have:ab", "USD", 1),
                              ("own", "EUR", -140), ("own", "USD", -8)))
        told = self.told(journal, "USD", 10)
        self.assertEqual(told["have:a"], (57, 77))
        self.assertEqual(told["have:a:b"], (20, 20))
        self.assertEqual(told["have:ab"], (1, 1))
        self.assertEqual(told["have"], (0, 78))
        self.assertEqual(told["own"], (-78, -78))
        self.assertEqual(told["gain"], (0, 0))
        self.assertEqual(self.told(journal, "EUR", 10)["have:a"], (114, 154))

    def test_rounded_once_for_each_balance(self):
        self.rates.quote(10, "CHF", 2, "USD", 1)
        journal = journal_of((10, ("have:a", "EUR", 1), ("have:a", "CHF", 1), ("have:a:b", "EUR", 3)),
                             (10, ("have:a", "EUR", 2)))
        told = self.told(journal, "USD", 10)
        self.assertEqual(told["have:a"], (2 + 0, 2 + 0 + 2))
        self.assertEqual(told["have"], (0, 4))

    def test_to_the_even_one_either_side_of_nought(self):
        for amount, value in ((1, 0), (3, 2), (5, 2), (7, 4), (-1, 0), (-3, -2), (-5, -2), (-7, -4)):
            told = self.told(journal_of((10, ("have:a", "EUR", amount))), "USD", 10)
            self.assertEqual(told["have:a"], (value, value), amount)

    def test_balances_and_rates_of_the_day(self):
        self.rates.quote(20, "EUR", 1, "USD", 3)
        journal = journal_of((10, ("have:a", "EUR", 8)), (15, ("have:a", "EUR", 2)), (30, ("have:a", "EUR", 1)))
        for day, value in ((10, 4), (14, 4), (15, 5), (19, 5), (20, 30), (29, 30), (30, 33), (LAST, 33)):
            self.assertEqual(self.told(journal, "USD", day)["have:a"][0], value, day)

    def test_by_a_chain(self):
        self.rates.quote(10, "USD", 1, "CHF", 10)
        self.assertEqual(self.told(journal_of((10, ("have", "EUR", 3))), "CHF", 10)["have"], (15, 15))

    def test_no_currencies(self):
        for thing in no_texts() + ["", "eur", "EURO", "EU\n"]:
            need_refusal(self, "BadCurrency", valued, self.chart, Journal(), self.rates, thing, 10)

    def test_no_days(self):
        for thing in no_wholes() + [-1, LAST + 1, 10 ** 5000]:
            need_refusal(self, "BadDay", valued, self.chart, Journal(), self.rates, "EUR", thing)

    def test_no_rate(self):
        journal = journal_of((5, ("have", "GBP", 1), ("own", "EUR", 1)))
        need_refusal(self, "NoRate", valued, self.chart, journal, self.rates, "EUR", 10)
        need_refusal(self, "NoRate", valued, self.chart, journal, self.rates, "USD", 5)
        need_refusal(self, "NoRate", valued, self.chart, journal, self.rates, "JPY", 10)

    def test_no_rate_just_where_a_balance_cant_be_converted(self):
        journal = journal_of((5, ("have", "GBP", 1)), (6, ("have", "GBP", -1)))
        self.assertEqual(self.told(journal, "EUR", 4)["have"], (0, 0))
        need_refusal(self, "NoRate", valued, self.chart, journal, self.rates, "EUR", 5)
        self.assertEqual(self.told(journal, "EUR", 6)["have"], (0, 0))
        self.assertEqual(self.told(journal, "GBP", 5)["have"], (1, 1))

    def test_balances_of_two_accounts_dont_make_up_for_one_another(self):
        journal = journal_of((5, ("have", "GBP", 1), ("own", "GBP", -1)))
        need_refusal(self, "NoRate", valued, self.chart, journal, self.rates, "EUR", 5)

    def test_the_first_refusal(self):
        journal = journal_of((5, ("have", "GBP", 1)))
        need_order(self, lambda rates, currency, day: valued(self.chart, journal, rates, currency, day),
                   (self.rates, "GBP", 10), (("BadCurrency", {1: "x"}), ("BadDay", {2: -1}), ("NoRate", {1: "EUR"})))

    def test_told_lists_are_the_askers_own(self):
        told = valued(self.chart, Journal(), self.rates, "EUR", 10)
        told.clear()
        self.assertEqual(len(valued(self.chart, Journal(), self.rates, "EUR", 10)), 8)


if __name__ == "__main__":
    unittest.main()
