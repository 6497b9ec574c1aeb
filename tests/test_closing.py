import random
import unittest

from evenhall.closing import carry_rows, close
from evenhall.days import first_day, last_day
from evenhall.deeds import book, undo
from evenhall.errors import HouseError
from evenhall.journal import Gate, Journal
from evenhall.reports import balances
from evenhall.seals import Seals, holds, seal
from things import chart_picture, hall, journal_of, need_order, need_refusal, no_texts, no_wholes

YEAR_END = last_day(11)


class CarryRows(unittest.TestCase):
    def setUp(self):
        self.chart = hall(("gain:a", None, 0), ("gain:ab", None, 0), ("cost:a", None, 0), ("own:kept", None, 0))

    def test_opposite_amounts_and_what_they_had_together(self):
        journal = journal_of(
            (5, ("have", "EUR", 100), ("gain:a", "EUR", -100)), (6, ("have", "USD", 9), ("gain", "USD", -9)),
            (7, ("cost:a", "EUR", 30), ("have", "EUR", -30)), (8, ("cost:a", "CHF", 4), ("have", "CHF", -4)))
        self.assertEqual(carry_rows(self.chart, journal, "own:kept", 2000), [
            ("cost:a", "CHF", -4), ("cost:a", "EUR", -30), ("gain", "USD", 9), ("gain:a", "EUR", 100),
            ("own:kept", "CHF", 4), ("own:kept", "EUR", -70), ("own:kept", "USD", -9)])

    def test_a_currency_that_comes_to_nought_together(self):
        journal = journal_of((5, ("gain:a", "EUR", -7), ("cost:a", "EUR", 7)), (5, ("gain", "USD", -1), ("have", "USD", 1)))
        self.assertEqual(carry_rows(self.chart, journal, "own", 2000), [
            ("cost:a", "EUR", -7), ("gain", "USD", 1), ("gain:a", "EUR", 7), ("own", "USD", -1)])

    def test_accounts_that_were_shut(self):
        journal = journal_of((5, ("gain:a", "EUR", -7), ("have", "EUR", 7)))
        self.chart.shut("gain:a", 10)
        self.assertEqual(carry_rows(self.chart, journal, "own", 2000), [("gain:a", "EUR", 7), ("own", "EUR", -7)])

    def test_other_kinds_and_noughts_are_not_carried(self):
        journal = journal_of((5, ("have", "EUR", 7), ("owe", "EUR", -3), ("own", "EUR", -4)),
                             (6, ("gain", "EUR", -4), ("have", "EUR", 4)), (7, ("gain", "EUR", 4), ("have", "EUR", -4)))
        self.assertEqual(carry_rows(self.chart, journal, "own", 2000), [])
        self.assertEqual(carry_rows(self.chart, Journal(), "own", 2000), [])

    def test_balances_on_the_last_day_of_the_year(self):
        journal = journal_of((last_day(11), ("gain", "EUR", -1)), (first_day(12), ("gain", "EUR", -10)),
                             (last_day(23), ("cost", "EUR", 100)), (first_day(24), ("cost", "EUR", 1000)))
        self.assertEqual(carry_rows(self.chart, journal, "own", 2000), [("gain", "EUR", 1), ("own", "EUR", -1)])
        self.assertEqual(carry_rows(self.chart, journal, "own", 2001), [
            ("cost", "EUR", -100), ("gain", "EUR", 11), ("own", "EUR", 89)])
        self.assertEqual(carry_rows(self.chart, journal, "own", 2399), [
            ("cost", "EUR", -1100), ("gain", "EUR", 11), ("own", "EUR", 1089)])

    def test_any_numbers_and_each_list_a_new_one(self):
        journal = journal_of((5, ("gain", "EUR", 10 ** 40)))
        told = carry_rows(self.chart, journal, "own", 2000)
        self.assertEqual(told, [("gain", "EUR", -10 ** 40), ("own", "EUR", 10 ** 40)])
        told.clear()
        self.assertEqual(len(carry_rows(self.chart, journal, "own", 2000)), 2)
        self.assertEqual(journal.many(), 1)


class Closing(unittest.TestCase):
    def setUp(self):
        self.chart = hall(("own:eur", "EUR", 0), ("own:old", None, 0), ("own:late", None, YEAR_END + 1), ("gain:a", None, 0))
        self.chart.shut("own:old", YEAR_END)
        self.gate = Gate()
        self.journal = Journal()
        self.seals = Seals()

    def close(self, month, path):
        return close(self.chart, self.gate, self.journal, self.seals, month, path)

    def put(self, day, *rows):
        return self.journal.put(day, "", rows, None)

    def picture(self):
        return (chart_picture(self.chart), self.gate.closed(), self.journal.every(), self.seals.every())


class Months(Closing):
    def test_the_seal_is_told_and_put(self):
        self.put(5, ("have", "EUR", 3), ("gain", "EUR", -3))
        told = self.close(0, None)
        self.assertEqual(told, (0, 1, (("gain", "EUR", -3), ("have", "EUR", 3))))
        self.assertEqual(self.seals.every(), [told])
        self.assertEqual(self.gate.closed(), 0)
        self.assertEqual(self.journal.many(), 1)
        self.assertEqual(self.close(1, None), (1, 1, told[2]))
        self.assertEqual([line[0] for line in self.seals.every()], [0, 1])

    def test_the_first_one_may_be_any(self):
        for month in (0, 7, 300, 4798):
            gate = Gate()
            close(self.chart, gate, self.journal, self.seals, month, None)
            self.assertEqual(gate.closed(), month)

    def test_another_one(self):
        self.close(5, None)
        before = self.picture()
        for month in (0, 4, 5, 7, 4799):
            need_refusal(self, "NotNext", self.close, month, "own")
        self.assertEqual(self.picture(), before)
        self.close(6, None)

    def test_no_months(self):
        before = self.picture()
        for thing in no_wholes() + [-1, 4800, 10 ** 5000]:
            need_refusal(self, "BadMonth", self.close, thing, "own")
        self.assertEqual(self.picture(), before)

    def test_the_path_may_be_anything_in_other_months(self):
        for month, path in enumerate([None, "x", "gain", 5, [], "own:old", object(), "", True, {}, "own:late"]):
            self.assertEqual(self.close(month, path), (month, 0, ()))

    def test_gain_and_cost_stay_in_other_months(self):
        self.put(5, ("gain", "EUR", -3), ("have", "EUR", 3))
        for month in range(11):
            self.close(month, "own")
        self.assertEqual(balances(self.chart, self.journal, YEAR_END), [("gain", "EUR", -3), ("have", "EUR", 3)])


class Years(Closing):
    def test_the_carry(self):
        self.put(5, ("have", "EUR", 3), ("gain:a", "EUR", -3))
        self.put(YEAR_END, ("cost", "EUR", 1), ("have", "EUR", -1))
        self.put(YEAR_END + 1, ("cost", "EUR", 50), ("have", "EUR", -50))
        told = self.close(11, "own:eur")
        rows = (("cost", "EUR", -1), ("gain:a", "EUR", 3), ("own:eur", "EUR", -2))
        self.assertEqual(self.journal.booking(3), (3, YEAR_END, "carry", rows, None))
        self.assertEqual(self.journal.many(), 4)
        self.assertEqual(told, (11, 3, (("have", "EUR", 2), ("own:eur", "EUR", -2))))
        self.assertEqual(told, seal(self.chart, self.journal, 11))
        self.assertEqual((self.gate.closed(), self.seals.every()), (11, [told]))

    def test_nothing_to_carry(self):
        self.put(5, ("have", "EUR", 3), ("own", "EUR", -3))
        self.assertEqual(self.close(11, "own"), (11, 1, (("have", "EUR", 3), ("own", "EUR", -3))))
        self.assertEqual(self.journal.many(), 1)

    def test_each_last_month_of_a_year(self):
        for month in (11, 23, 35, 299, 4799):
            gate = Gate()
            journal = journal_of((5, ("gain", "EUR", -3), ("have", "EUR", 3)))
            close(self.chart, gate, journal, Seals(), month, "own")
            self.assertEqual(journal.booking(1)[1:3], (last_day(month), "carry"))
        for month in (10, 12, 22, 4798):
            journal = journal_of((5, ("gain", "EUR", -3), ("have", "EUR", 3)))
            close(self.chart, Gate(), journal, Seals(), month, "own")
            self.assertEqual(journal.many(), 1)

    def test_accounts_that_were_shut_and_any_numbers(self):
        self.put(5, ("have", "EUR", 10 ** 20), ("gain:a", "EUR", -10 ** 20))
        self.chart.shut("gain:a", 50)
        self.close(11, "own")
        self.assertEqual(self.journal.booking(1)[3], (("gain:a", "EUR", 10 ** 20), ("own", "EUR", -10 ** 20)))

    def test_no_account(self):
        for path in no_texts() + ["", "x", "own:x", "OWN", "own\n"]:
            need_refusal(self, "NoAccount", self.close, 11, path)

    def test_another_kind(self):
        for path in ("have", "owe", "gain", "cost", "gain:a"):
            need_refusal(self, "BadKind", self.close, 11, path)

    def test_not_open_on_the_last_day(self):
        need_refusal(self, "NotOpen", self.close, 11, "own:old")
        need_refusal(self, "NotOpen", self.close, 11, "own:late")
        self.chart.add("own:just", None, YEAR_END)
        self.chart.shut("own:just", YEAR_END + 1)
        self.assertEqual(self.close(11, "own:just"), (11, 0, ()))

    def test_another_currency(self):
        self.put(5, ("have", "USD", 3), ("gain", "USD", -3))
        need_refusal(self, "BadCurrency", self.close, 11, "own:eur")
        self.put(5, ("have", "EUR", 3), ("gain", "EUR", -3))
        need_refusal(self, "BadCurrency", self.close, 11, "own:eur")
        self.close(11, "own")

    def test_another_currency_that_comes_to_nought_together(self):
        self.put(5, ("cost", "USD", 3), ("gain", "USD", -3))
        self.put(5, ("have", "EUR", 3), ("gain", "EUR", -3))
        self.close(11, "own:eur")
        self.assertEqual(self.journal.booking(2)[3], (
            ("cost", "USD", -3), ("gain", "EUR", 3), ("gain", "USD", 3), ("own:eur", "EUR", -3)))

    def test_the_path_is_asked_where_there_is_nothing_to_carry(self):
        for name, path in (("NoAccount", None), ("BadKind", "have"), ("NotOpen", "own:old")):
            need_refusal(self, name, self.close, 11, path)
        self.assertEqual(self.close(11, "own:eur"), (11, 0, ()))

    def test_the_first_refusal(self):
        self.chart.add("own:oldusd", "USD", 0)
        self.chart.shut("own:oldusd", 9)
        self.chart.add("gain:old", "USD", 0)
        self.chart.shut("gain:old", 9)
        self.put(5, ("have", "EUR", 3), ("gain", "EUR", -3))
        self.chart.add("own:usd", "USD", 0)
        before = self.picture()
        need_order(self, self.close, (11, "own"), (
            ("BadMonth", {0: -1}), ("BadMonth", {0: None}), ("NoAccount", {1: "x"}), ("BadKind", {1: "gain"}),
            ("BadKind", {1: "gain:old"}), ("NotOpen", {1: "own:old"}), ("NotOpen", {1: "own:oldusd"}),
            ("BadCurrency", {1: "own:usd"})))
        self.assertEqual(self.picture(), before)
        self.gate.shut(9)
        for path in ("own", "x", None, "gain", "own:old", "own:usd"):
            need_refusal(self, "NotNext", self.close, 11, path)

    def test_refused_it_changes_nothing(self):
        self.put(5, ("have", "USD", 3), ("gain", "USD", -3))
        self.close(10, None)
        before = self.picture()
        for month, path in ((11, None), (11, "gain"), (11, "own:old"), (11, "own:eur"), (12, "own"), (10, "own")):
            with self.assertRaises(HouseError):
                self.close(month, path)
            self.assertEqual(self.picture(), before)
        self.close(11, "own")

    def test_a_carry_that_is_undone(self):
        self.put(5, ("have", "EUR", 3), ("gain", "EUR", -3))
        told = self.close(11, "own")
        need_refusal(self, "Closed", undo, self.chart, self.gate, self.journal, 1, YEAR_END, "")
        undo(self.chart, self.gate, self.journal, 1, YEAR_END + 1, "no carry")
        self.assertEqual(self.journal.booking(2), (
            2, YEAR_END + 1, "no carry", (("gain", "EUR", -3), ("own", "EUR", 3)), 1))
        self.assertEqual(balances(self.chart, self.journal, YEAR_END + 1), [("gain", "EUR", -3), ("have", "EUR", 3)])
        self.assertIs(holds(self.chart, self.journal, told), True)

    def test_told_lists_are_the_askers_own(self):
        self.close(10, None)
        told = self.seals.every()
        self.close(11, "own")
        self.assertEqual(len(told), 1)
        told.clear()
        self.assertEqual(len(self.seals.every()), 2)


class ForEver(Closing):
    def test_each_seal_holds_whatever_is_done_behind_it(self):
        chance = random.Random(5)
        day = 0
        for step in range(400):
            day = chance.randrange(0, 900)
            amount = chance.randrange(1, 9)
            top = chance.choice(["gain", "cost", "owe"])
            try:
                turn = chance.randrange(8)
                if turn == 0:
                    closed = self.gate.closed()
                    self.close(0 if closed is None else closed + 1, chance.choice(["own", "own", "own:eur"]))
                elif turn == 1 and self.journal.many():
                    undo(self.chart, self.gate, self.journal, chance.randrange(self.journal.many()), day, "")
                else:
                    currency = chance.choice(["EUR", "USD"])
                    book(self.chart, self.gate, self.journal, day, "", [("have", currency, amount), (top, currency, -amount)])
            except HouseError:
                pass
            for told in self.seals.every():
                self.assertIs(holds(self.chart, self.journal, told), True)
        self.assertGreater(len(self.seals.every()), 24)
        self.assertTrue([booking for booking in self.journal.every() if booking[2] == "carry"])


if __name__ == "__main__":
    unittest.main()
