import fractions
import itertools
import math
import random
import unittest

from evenhall.chains import chain, converted, rate
from evenhall.rates import Rates
from things import need_order, need_refusal, no_texts, no_wholes

LAST = 146096


def rates_of(*quotes):
    rates = Rates()
    for quote in quotes:
        rates.quote(*quote)
    return rates


def linked(text, day=0):
    """Rates of 1 to 1 of the pairs in a text such as "AB BC", each letter standing for three of it."""
    rates = Rates()
    for pair in text.split():
        rates.quote(day, pair[0] * 3, 1, pair[1] * 3, 1)
    return rates


def letters(told):
    return "".join(currency[0] for currency in told)


def first_chain(rates, one, other, day):
    """All chains are tried, the shortest ones first and among them in the order of lists."""
    between = [currency for currency in rates.currencies() if currency not in (one, other)]
    for many in range(len(between) + 1):
        for middle in itertools.permutations(between, many):
            steps = [one, *middle, other]
            if all(rates.newest(here, there, day) is not None for here, there in zip(steps, steps[1:])):
                return steps
    return None


class Chains(unittest.TestCase):
    def goes(self, rates, one, other, told):
        self.assertEqual(letters(chain(rates, one * 3, other * 3, 0)), told)

    def test_straight_and_by_others(self):
        rates = linked("AB BC CD")
        self.goes(rates, "A", "B", "AB")
        self.goes(rates, "B", "A", "BA")
        self.goes(rates, "A", "C", "ABC")
        self.goes(rates, "D", "A", "DCBA")

    def test_to_itself(self):
        self.goes(linked("AB"), "A", "A", "A")
        self.assertEqual(chain(Rates(), "XYZ", "XYZ", 5), ["XYZ"])

    def test_by_as_few_as_can_be(self):
        self.goes(linked("AB BC CD AD"), "A", "D", "AD")
        self.goes(linked("AB BC CZ AY YZ"), "A", "Z", "AYZ")
        self.goes(linked("AB BC CD DE AE"), "A", "D", "AED")

    def test_of_as_many_the_first_one(self):
        self.goes(linked("AC CZ AB BZ AD DZ"), "A", "Z", "ABZ")
        self.goes(linked("AY YB BZ AX XC CZ"), "A", "Z", "AXCZ")
        self.goes(linked("MX XZ MA AZ"), "M", "Z", "MAZ")

    def test_a_first_step_that_leads_farther_is_not_taken(self):
        self.goes(linked("MA AB BC CZ MY YZ"), "M", "Z", "MYZ")
        self.goes(linked("MA MB BC CZ AD DE EZ"), "M", "Z", "MBCZ")

    def test_the_way_back_need_not_be_the_same_turned(self):
        rates = linked("AD DC CZ AE EB BZ")
        self.goes(rates, "A", "Z", "ADCZ")
        self.goes(rates, "Z", "A", "ZBEA")

    def test_it_changes_from_day_to_day(self):
        rates = rates_of((5, "AAA", 1, "BBB", 1), (5, "BBB", 1, "CCC", 1), (7, "CCC", 1, "AAA", 1))
        need_refusal(self, "NoRate", chain, rates, "AAA", "CCC", 4)
        self.assertEqual(letters(chain(rates, "AAA", "CCC", 5)), "ABC")
        self.assertEqual(letters(chain(rates, "AAA", "CCC", 6)), "ABC")
        self.assertEqual(letters(chain(rates, "AAA", "CCC", 7)), "AC")
        self.assertEqual(letters(chain(rates, "AAA", "CCC", LAST)), "AC")

    def test_a_quote_of_a_later_day_lets_nothing_through(self):
        rates = rates_of((5, "AAA", 1, "BBB", 1), (9, "BBB", 1, "CCC", 1), (5, "CCC", 1, "DDD", 1))
        need_refusal(self, "NoRate", chain, rates, "AAA", "DDD", 8)
        self.assertEqual(letters(chain(rates, "AAA", "DDD", 9)), "ABCD")

    def test_none(self):
        rates = linked("AB CD")
        for one, other in (("AAA", "CCC"), ("DDD", "BBB"), ("AAA", "XXX"), ("XXX", "AAA"), ("XXX", "YYY")):
            need_refusal(self, "NoRate", chain, rates, one, other, 0)
            need_refusal(self, "NoRate", rate, rates, one, other, 0)
            need_refusal(self, "NoRate", converted, rates, 5, one, other, 0)
            need_refusal(self, "NoRate", converted, rates, 0, one, other, 0)

    def test_against_all_chains(self):
        chance = random.Random(11)
        names = [letter * 3 for letter in "ABCDEF"]
        for turn in range(60):
            rates = Rates()
            for step in range(chance.randrange(3, 9)):
                one, other = chance.sample(names, 2)
                rates.quote(chance.randrange(3), one, 1, other, 1)
            for one, other in itertools.permutations(rates.currencies(), 2):
                for day in range(3):
                    wanted = first_chain(rates, one, other, day)
                    if wanted is None:
                        need_refusal(self, "NoRate", chain, rates, one, other, day)
                    else:
                        self.assertEqual(chain(rates, one, other, day), wanted)

    def test_each_list_is_a_new_one(self):
        rates = linked("AB BC")
        told = chain(rates, "AAA", "CCC", 0)
        told.clear()
        self.assertEqual(chain(rates, "AAA", "CCC", 0), ["AAA", "BBB", "CCC"])
        self.assertEqual(rates.currencies(), ["AAA", "BBB", "CCC"])


class RefusalsOfAll(unittest.TestCase):
    def calls(self, rates):
        return (lambda one, other, day: chain(rates, one, other, day), lambda one, other, day: rate(rates, one, other, day),
                lambda one, other, day: converted(rates, 5, one, other, day))

    def test_no_currencies(self):
        for call in self.calls(linked("AB")):
            for thing in no_texts() + ["", "aaa", "AA", "AAAA", "AA\n"]:
                need_refusal(self, "BadCurrency", call, thing, "BBB", 0)
                need_refusal(self, "BadCurrency", call, "AAA", thing, 0)
                need_refusal(self, "BadCurrency", call, thing, thing, 0)

    def test_no_days(self):
        for call in self.calls(linked("AB")):
            for day in no_wholes() + [-1, LAST + 1, 10 ** 5000]:
                need_refusal(self, "BadDay", call, "AAA", "BBB", day)
                need_refusal(self, "BadDay", call, "AAA", "AAA", day)

    def test_the_first_refusal(self):
        for call in self.calls(linked("AB")):
            need_order(self, call, ("AAA", "BBB", 0), (("BadCurrency", {0: "a"}), ("BadCurrency", {1: None}),
                                                       ("BadDay", {2: -1}), ("NoRate", {1: "CCC"}), ("NoRate", {0: "CCC"})))


class RateOf(unittest.TestCase):
    def test_one_step(self):
        rates = rates_of((5, "EUR", 7, "USD", 9))
        self.assertEqual(rate(rates, "EUR", "USD", 5), (7, 9))
        self.assertEqual(rate(rates, "USD", "EUR", 5), (9, 7))

    def test_lowest_terms(self):
        rates = rates_of((5, "EUR", 100, "USD", 108))
        self.assertEqual(rate(rates, "EUR", "USD", 5), (25, 27))
        self.assertEqual(rate(rates, "USD", "EUR", 5), (27, 25))
        self.assertEqual(rate(rates_of((5, "EUR", 10 ** 9, "USD", 10 ** 9)), "EUR", "USD", 5), (1, 1))
        self.assertEqual(rate(rates_of((5, "EUR", 6, "USD", 3)), "EUR", "USD", 5), (2, 1))

    def test_by_all_steps(self):
        rates = rates_of((0, "AAA", 2, "BBB", 3), (0, "CCC", 7, "BBB", 5), (0, "CCC", 10, "DDD", 11))
        self.assertEqual(rate(rates, "AAA", "CCC", 0), (10, 21))
        self.assertEqual(rate(rates, "CCC", "AAA", 0), (21, 10))
        self.assertEqual(rate(rates, "AAA", "DDD", 0), (100, 231))
        self.assertIs(type(rate(rates, "AAA", "DDD", 0)), tuple)

    def test_lowest_over_steps(self):
        rates = rates_of((0, "AAA", 2, "BBB", 3), (0, "BBB", 3, "CCC", 2))
        self.assertEqual(rate(rates, "AAA", "CCC", 0), (1, 1))

    def test_to_itself(self):
        self.assertEqual(rate(Rates(), "EUR", "EUR", 0), (1, 1))
        self.assertEqual(rate(rates_of((0, "EUR", 2, "USD", 3)), "EUR", "EUR", 0), (1, 1))

    def test_the_quote_of_the_day(self):
        rates = rates_of((5, "EUR", 1, "USD", 2), (8, "EUR", 1, "USD", 3))
        self.assertEqual([rate(rates, "EUR", "USD", day) for day in (5, 7, 8, 9)], [(1, 2), (1, 2), (1, 3), (1, 3)])

    def test_against_fractions(self):
        chance = random.Random(3)
        for turn in range(40):
            rates = Rates()
            worth = fractions.Fraction(1)
            for one, other in ("AB", "BC", "CD", "DE"):
                p, q = chance.randrange(1, 60), chance.randrange(1, 60)
                rates.quote(0, one * 3, p, other * 3, q)
                worth = worth * q / p
            p, q = rate(rates, "AAA", "EEE", 0)
            self.assertEqual((q, p), (worth.numerator, worth.denominator))
            self.assertEqual(math.gcd(p, q), 1)


class Converted(unittest.TestCase):
    def test_ordinary_ones(self):
        rates = rates_of((5, "EUR", 100, "USD", 108))
        self.assertEqual(converted(rates, 1000, "EUR", "USD", 5), 1080)
        self.assertEqual(converted(rates, 1080, "USD", "EUR", 5), 1000)
        self.assertEqual(converted(rates, 0, "EUR", "USD", 5), 0)
        self.assertEqual(converted(rates, -1000, "EUR", "USD", 5), -1080)

    def test_halves(self):
        rates = rates_of((5, "EUR", 2, "USD", 1))
        for amount, told in ((1, 0), (3, 2), (5, 2), (7, 4), (-1, 0), (-3, -2), (-5, -2), (-7, -4), (2, 1)):
            self.assertEqual(converted(rates, amount, "EUR", "USD", 5), told, amount)

    def test_rounded_once_over_all_steps(self):
        rates = rates_of((0, "AAA", 2, "BBB", 1), (0, "BBB", 1, "CCC", 2))
        for amount in (-3, -1, 1, 3, 5):
            self.assertEqual(converted(rates, amount, "AAA", "CCC", 0), amount)

    def test_to_itself(self):
        self.assertEqual(converted(Rates(), -77, "EUR", "EUR", 0), -77)

    def test_any_whole_number(self):
        rates = rates_of((5, "EUR", 3, "USD", 1))
        self.assertEqual(converted(rates, 3 * 10 ** 40 + 2, "EUR", "USD", 5), 10 ** 40 + 1)
        self.assertEqual(converted(rates, -3 * 10 ** 40 - 1, "EUR", "USD", 5), -10 ** 40)

    def test_nothing_is_changed(self):
        rates = rates_of((5, "EUR", 3, "USD", 1))
        converted(rates, 7, "USD", "EUR", 9)
        self.assertEqual(rates.quotes(), [(5, "EUR", 3, "USD", 1)])


if __name__ == "__main__":
    unittest.main()
