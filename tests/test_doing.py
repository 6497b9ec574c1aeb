import unittest

import evenhall.errors as errors
from evenhall.days import day_of
from evenhall.doing import carry_out, is_deed
from evenhall.house import House
from evenhall.keeps import all_told
from evenhall.orders import order_of
from things import BEGINNING, ENDING, QUESTIONS, REFUSED, need_refusal

D = day_of("2024-03-05")
DEEDS = "top add shut quote book undo close budget standing drop run".split()


def house_with(story):
    house = House()
    for line, answer in story:
        carry_out(house, order_of(line))
    return house


def none_for_nothing(answer):
    return [] if answer == ["nothing"] else answer


class IsDeed(unittest.TestCase):
    def test_each_order(self):
        for line, answer in BEGINNING + ENDING:
            self.assertIs(is_deed(order_of(line)), True, line)
        for line, answer in QUESTIONS:
            self.assertIs(is_deed(order_of(line)), False, line)

    def test_each_word(self):
        for line in ("top a b", "add a b 2024-01-01", "shut a 2024-01-01", "quote 2024-01-01 a 1 b 1",
                     "book 2024-01-01 a b 1 |", "undo 1 2024-01-01 |", "close 2024-01 -", "budget a b c 2024-01 2024-01 1 1",
                     "standing a 2024-01-01 1 1 a b 1 |", "drop budget a", "drop standing a", "run 2024-01-01"):
            self.assertIs(is_deed(order_of(line)), True, line)
        for line in ("accounts", "report 2024-01-01 2024-01-01", "balances 2024-01-01",
                     "statement a b 2024-01-01 2024-01-01", "months a b 2024-01 2024-01", "worth a 2024-01-01",
                     "left a 2024-01", "over 2024-01", "seals"):
            self.assertIs(is_deed(order_of(line)), False, line)


class CarryOut(unittest.TestCase):
    def test_the_lines_that_answer(self):
        house = House()
        for line, answer in BEGINNING + ENDING:
            self.assertEqual(carry_out(house, order_of(line)), none_for_nothing(answer), line)

    def test_it_is_the_last_of_the_orders_then(self):
        house = House()
        done = []
        for line, answer in BEGINNING + ENDING:
            carry_out(house, order_of(line))
            done.append(order_of(line))
            self.assertEqual(house.orders, done)

    def test_a_run_of_nothing_is_among_them(self):
        house = House()
        self.assertEqual(carry_out(house, ("run", D)), [])
        self.assertEqual(carry_out(house, ("run", D)), [])
        self.assertEqual(house.orders, [("run", D), ("run", D)])

    def test_what_was_done(self):
        house = house_with(BEGINNING)
        self.assertEqual(house.chart.span_of("have:cash"), (day_of("2024-01-15"), day_of("2025-06-01")))
        self.assertIsNone(house.chart.currency_of("have:bank"))
        self.assertEqual(house.rates.quotes(), [(day_of("2024-01-01"), "EUR", 2, "USD", 3)])
        self.assertEqual(house.gate.closed(), 288)
        self.assertEqual(house.journal.booking(1), (
            1, day_of("2024-01-20"), "", (("cost:food", "EUR", 50), ("have:bank:giro", "EUR", -50)), None))
        self.assertEqual(house.journal.booking(5), (
            5, day_of("2024-02-11"), "not | food", (("cost:food", "EUR", -50), ("have:bank:giro", "EUR", 50)), 1))
        self.assertEqual(house.journal.booking(3)[1:3], (day_of("2024-02-29"), "rent"))
        self.assertEqual([told[0] for told in house.seals.every()], [288])
        self.assertEqual(house.budgets.terms("food"), ("cost:food", "EUR", 288, 290, 100, (1, 1, 1)))
        self.assertEqual(house.plans.terms("rent"), (
            day_of("2024-01-31"), 1, 3, "rent", (("cost", "EUR", 40), ("have:bank:giro", "EUR", -40))))
        self.assertEqual(house.plans.done("rent"), 2)

    def test_what_was_dropped(self):
        house = house_with(BEGINNING + ENDING[:1])
        self.assertEqual((house.plans.names(), house.budgets.names()), ([], ["food"]))
        carry_out(house, ("drop", "budget", "food"))
        self.assertEqual(house.budgets.names(), [])

    def test_sums_of_all_bookings(self):
        house = house_with(BEGINNING + ENDING)
        for path, currency, first, last, told in (
                ("have:bank:giro", "EUR", 288, 288, 910), ("have:bank:giro", "EUR", 289, 289, 10), ("cost", "EUR", 288, 289, 80),
                ("cost:food", "EUR", 288, 288, 50), ("cost:food", "EUR", 289, 289, -50), ("gain", "EUR", 288, 298, -1000),
                ("gain", "EUR", 299, 299, 1000), ("cost", "EUR", 299, 299, -80), ("own:kept", "EUR", 299, 299, -920),
                ("gain", "EUR", 0, 4799, 0), ("have:cash", "USD", 289, 289, 30)):
            self.assertEqual(house.sums.own(path, currency, first, last), told, (path, first, last))
        self.assertEqual(house.sums.standing("own:kept", "EUR", 299), -920)
        self.assertEqual(house.sums.currencies("gain"), ["EUR"])

    def test_sums_are_those_of_the_journal(self):
        house = house_with(BEGINNING + ENDING)
        for path in house.chart.accounts():
            for currency in ("EUR", "USD"):
                rows = [row for booking in house.journal.every() for row in booking[3]]
                told = sum(row[2] for row in rows if row[:2] == (path, currency))
                self.assertEqual(house.sums.standing(path, currency, 4799), told)

    def test_refused_as_what_it_calls_and_nothing_is_changed(self):
        house = house_with(BEGINNING)
        before = (all_told(house), house.orders)
        for line, words in REFUSED:
            order = order_of(line)
            if is_deed(order):
                name = "Uneven" if words.startswith("uneven") else "".join(word.capitalize() for word in words.split())
                need_refusal(self, name, carry_out, house, order)
                self.assertEqual((all_told(house), house.orders), before, line)

    def test_tuples_with_what_no_line_can_say(self):
        house = house_with(BEGINNING)
        before = (all_told(house), house.orders)
        for name, order in (("BadNote", ("book", D, (("have", "EUR", 1), ("own", "EUR", -1)), " x")),
                            ("BadNote", ("undo", 0, D, "n" * 41)), ("BadRow", ("book", D, (), "")),
                            ("BadNote", ("standing", "x", D, 1, 1, (("have", "EUR", 1), ("own", "EUR", -1)), "x ")),
                            ("BadDay", ("run", -1)), ("BadMonth", ("close", 4800, None)), ("BadDay", ("add", "have:x", None, -1)),
                            ("BadCurrency", ("add", "have:x", "any", D)), ("NoAccount", ("close", 299, None))):
            if name == "NoAccount":
                for month in range(289, 299):
                    house.gate.shut(month)
                before = (all_told(house), house.orders)
            need_refusal(self, name, carry_out, house, order)
            self.assertEqual((all_told(house), house.orders), before)

    def test_questions_are_not_carried_out(self):
        house = house_with(BEGINNING)
        before = (all_told(house), house.orders)
        for line, answer in QUESTIONS:
            need_refusal(self, "BadOrder", carry_out, house, order_of(line))
        self.assertEqual((all_told(house), house.orders), before)

    def test_told_lists_are_the_askers_own(self):
        house = house_with(BEGINNING[:3])
        orders = house.orders
        lines = carry_out(house, ("top", "x", "own"))
        self.assertEqual(len(orders), 3)
        self.assertEqual(len(house.orders), 4)
        lines.append("x")
        self.assertEqual(carry_out(house, ("top", "y", "own")), ["done"])

    def test_a_closed_month_with_any_path(self):
        house = House()
        self.assertEqual(carry_out(house, ("close", 5, "no:such")), ["2000-06 0"])
        self.assertEqual(carry_out(house, ("close", 6, None)), ["2000-07 0"])

    def test_a_run_with_what_is_refused(self):
        house = house_with(BEGINNING)
        carry_out(house, order_of("standing bad 2024-02-20 1 2 no EUR 1 own EUR -1 |"))
        self.assertEqual(carry_out(house, order_of("run 2024-03-31")), [
            "bad 2024-02-20 refused", "bad 2024-03-20 refused", "rent 2024-03-31 6"])


class Words(unittest.TestCase):
    def test_each_class_has_the_words_of_its_name(self):
        for name in ("BadName", "BadNote", "BadDay", "BadMonth", "BadCount", "BadAmount", "BadCurrency", "BadShare", "BadPath",
                     "BadKind", "NoAccount", "Twice", "NotOpen", "HasBelow", "BadRate", "NoRate", "BadRow", "NoBooking",
                     "Undone", "Closed", "NotNext", "NoBudget", "NoOrder", "BadOrder"):
            words = "".join(" " + sign.lower() if sign.isupper() else sign for sign in name).strip()
            self.assertEqual(getattr(errors, name)().small_words(), words)
        self.assertEqual(errors.Uneven("EUR").small_words(), "uneven EUR")


if __name__ == "__main__":
    unittest.main()
