import unittest

from evenhall.rates import Rates
from things import need_order, need_refusal, no_texts, no_wholes

LAST = 146096
MOST = 10 ** 9


def rates_of(*quotes):
    rates = Rates()
    for quote in quotes:
        rates.quote(*quote)
    return rates


class Quoting(unittest.TestCase):
    def test_what_is_told(self):
        rates = Rates()
        self.assertIsNone(rates.quote(5, "EUR", 100, "USD", 108))
        self.assertIsNone(rates.quote(3, "USD", 7, "CHF", 5))
        self.assertEqual(rates.quotes(), [(3, "CHF", 5, "USD", 7), (5, "EUR", 100, "USD", 108)])
        self.assertEqual(rates.currencies(), ["CHF", "EUR", "USD"])

    def test_nothing_at_first(self):
        self.assertEqual((Rates().quotes(), Rates().currencies()), ([], []))
        self.assertIsNone(Rates().newest("EUR", "USD", 5))

    def test_bounds(self):
        rates = rates_of((0, "AAA", 1, "ZZZ", MOST), (LAST, "ZZZ", 1, "AAA", MOST))
        self.assertEqual(rates.quotes(), [(0, "AAA", 1, "ZZZ", MOST), (LAST, "AAA", MOST, "ZZZ", 1)])

    def test_no_days(self):
        for day in no_wholes() + [-1, LAST + 1, 10 ** 5000]:
            need_refusal(self, "BadDay", Rates().quote, day, "EUR", 1, "USD", 1)

    def test_no_currencies(self):
        for currency in no_texts() + ["", "eur", "EU", "EURO", "E R", "EU\n"]:
            need_refusal(self, "BadCurrency", Rates().quote, 0, currency, 1, "USD", 1)
            need_refusal(self, "BadCurrency", Rates().quote, 0, "USD", 1, currency, 1)
            need_refusal(self, "BadCurrency", Rates().quote, 0, currency, 1, currency, 1)

    def test_both_alike(self):
        need_refusal(self, "BadCurrency", Rates().quote, 0, "USD", 1, "USD", 1)
        need_refusal(self, "BadCurrency", Rates().quote, 0, "USD", 2, "USD", 1)

    def test_no_rates(self):
        for thing in no_wholes() + [0, -1, MOST + 1, 10 ** 5000]:
            need_refusal(self, "BadRate", Rates().quote, 0, "EUR", thing, "USD", 1)
            need_refusal(self, "BadRate", Rates().quote, 0, "EUR", 1, "USD", thing)

    def test_the_first_refusal(self):
        need_order(self, Rates().quote, (5, "EUR", 1, "USD", 1), (
            ("BadDay", {0: -1}), ("BadCurrency", {1: "eur"}), ("BadCurrency", {3: None}), ("BadCurrency", {3: "EUR"}),
            ("BadRate", {2: 0}), ("BadRate", {4: True})))

    def test_refused_it_changes_nothing(self):
        rates = rates_of((5, "EUR", 2, "USD", 3))
        for handed in ((-1, "EUR", 1, "USD", 1), (5, "EUR", 1, "EUR", 1), (5, "EUR", 0, "USD", 1),
                       (5, "EUR", 1, "USD", 0), (5, "CHF", 1, "USD", 0), (5, "EUR", 1, "usd", 1)):
            with self.assertRaises(ValueError):
                rates.quote(*handed)
        self.assertEqual(rates.quotes(), [(5, "EUR", 2, "USD", 3)])
        self.assertEqual(rates.currencies(), ["EUR", "USD"])


class ToldAgain(unittest.TestCase):
    def test_the_same_way_round(self):
        rates = rates_of((5, "EUR", 2, "USD", 3), (5, "EUR", 4, "USD", 7))
        self.assertEqual(rates.quotes(), [(5, "EUR", 4, "USD", 7)])
        self.assertEqual(rates.newest("EUR", "USD", 5), (4, 7))

    def test_the_other_way_round(self):
        rates = rates_of((5, "EUR", 2, "USD", 3), (5, "USD", 9, "EUR", 8))
        self.assertEqual(rates.quotes(), [(5, "EUR", 8, "USD", 9)])
        self.assertEqual(rates.newest("EUR", "USD", 5), (8, 9))
        rates.quote(5, "EUR", 1, "USD", 1)
        self.assertEqual(rates.quotes(), [(5, "EUR", 1, "USD", 1)])

    def test_another_day_or_others_stay(self):
        rates = rates_of((5, "EUR", 2, "USD", 3), (6, "USD", 1, "EUR", 1), (5, "EUR", 1, "CHF", 1))
        self.assertEqual(rates.quotes(), [(5, "CHF", 1, "EUR", 1), (5, "EUR", 2, "USD", 3), (6, "EUR", 1, "USD", 1)])


class Newest(unittest.TestCase):
    def test_either_way_round(self):
        rates = rates_of((5, "EUR", 100, "USD", 108))
        self.assertEqual(rates.newest("EUR", "USD", 5), (100, 108))
        self.assertEqual(rates.newest("USD", "EUR", 5), (108, 100))
        turned = rates_of((5, "USD", 108, "EUR", 100))
        self.assertEqual(turned.newest("EUR", "USD", 5), (100, 108))
        self.assertEqual(turned.newest("USD", "EUR", 5), (108, 100))

    def test_not_made_lesser(self):
        rates = rates_of((5, "EUR", 10, "USD", 20))
        self.assertEqual(rates.newest("EUR", "USD", 9), (10, 20))
        self.assertIs(type(rates.newest("EUR", "USD", 9)), tuple)
        self.assertIs(type(rates.newest("USD", "EUR", 9)), tuple)

    def test_ahead_of_on_and_behind_a_day(self):
        rates = rates_of((20, "EUR", 2, "USD", 2), (10, "EUR", 1, "USD", 1), (30, "USD", 3, "EUR", 4))
        for day, told in ((0, None), (9, None), (10, (1, 1)), (11, (1, 1)), (19, (1, 1)), (20, (2, 2)), (29, (2, 2)),
                          (30, (4, 3)), (31, (4, 3)), (LAST, (4, 3))):
            self.assertEqual(rates.newest("EUR", "USD", day), told, day)
            back = None if told is None else (told[1], told[0])
            self.assertEqual(rates.newest("USD", "EUR", day), back, day)

    def test_on_the_first_day(self):
        self.assertEqual(rates_of((0, "EUR", 1, "USD", 2)).newest("EUR", "USD", 0), (1, 2))

    def test_of_two_alike(self):
        rates = rates_of((5, "EUR", 1, "USD", 1))
        self.assertIsNone(rates.newest("EUR", "EUR", 9))
        self.assertIsNone(rates.newest("GBP", "GBP", 9))

    def test_of_others(self):
        rates = rates_of((5, "EUR", 1, "USD", 1), (5, "CHF", 1, "GBP", 1))
        self.assertIsNone(rates.newest("EUR", "CHF", 9))
        self.assertIsNone(rates.newest("EUR", "JPY", 9))


class Lists(unittest.TestCase):
    def test_quotes_rise(self):
        rates = rates_of((9, "BBB", 1, "AAA", 2), (3, "CCC", 5, "AAA", 1), (3, "BBB", 1, "AAA", 7), (3, "CCC", 1, "BBB", 1))
        self.assertEqual(rates.quotes(), [(3, "AAA", 1, "CCC", 5), (3, "AAA", 7, "BBB", 1), (3, "BBB", 1, "CCC", 1),
                                          (9, "AAA", 2, "BBB", 1)])
        self.assertEqual(rates.quotes(), sorted(rates.quotes()))

    def test_told_lists_are_the_askers_own(self):
        rates = rates_of((5, "EUR", 1, "USD", 1))
        quotes = rates.quotes()
        currencies = rates.currencies()
        rates.quote(6, "EUR", 1, "CHF", 1)
        self.assertEqual((quotes, currencies), ([(5, "EUR", 1, "USD", 1)], ["EUR", "USD"]))
        quotes.clear()
        currencies.append("X")
        self.assertEqual(rates.quotes(), [(5, "EUR", 1, "USD", 1), (6, "CHF", 1, "EUR", 1)])
        self.assertEqual(rates.currencies(), ["CHF", "EUR", "USD"])

    def test_two_are_two(self):
        one = rates_of((5, "EUR", 1, "USD", 1))
        self.assertEqual(Rates().quotes(), [])
        self.assertEqual(len(one.quotes()), 1)


if __name__ == "__main__":
    unittest.main()
