import random
import unittest

from evenhall.errors import HouseError
from evenhall.house import House
from evenhall.keeps import house_lines, house_of, same_house
from evenhall.reports import report
from evenhall.seals import holds
from evenhall.shell import answered
from things import BEGINNING, ENDING, NO_LINES, QUESTIONS, REFUSED, need_refusal, no_texts

LINES = [line for line, answer in BEGINNING + ENDING]
START = [line for line, answer in BEGINNING]


class HouseLines(unittest.TestCase):
    def test_the_lines_of_the_orders_that_it_did(self):
        house = House()
        self.assertEqual(house_lines(house), [])
        for line in LINES:
            answered(house, line)
        self.assertEqual(house_lines(house), LINES)
        self.assertIs(type(house_lines(house)), list)

    def test_those_refused_and_questions_are_left_out(self):
        house = House()
        for line in START:
            answered(house, line)
        for line, words in REFUSED + QUESTIONS:
            answered(house, line)
        for line in NO_LINES:
            answered(house, line)
        self.assertEqual(house_lines(house), START)

    def test_told_lists_are_the_askers_own(self):
        house = house_of(START)
        told = house_lines(house)
        answered(house, "top x own")
        self.assertEqual(told, START)
        told.clear()
        self.assertEqual(house_lines(house), START + ["top x own"])

    def test_a_change_to_the_orders_that_are_shown_changes_nothing(self):
        house = house_of(START)
        house.orders.clear()
        self.assertEqual(house_lines(house), START)
        answered(house, "top x own")
        self.assertEqual(len(house.orders), len(START) + 1)


class HouseOf(unittest.TestCase):
    def test_a_house_that_is_alike(self):
        for many in range(len(LINES) + 1):
            house = House()
            for line in LINES[:many]:
                answered(house, line)
            other = house_of(house_lines(house))
            self.assertIs(same_house(house, other), True, many)
            self.assertEqual(house.orders, other.orders)

    def test_alike_behind_one_more_order_done_in_both(self):
        for line in LINES + [line for line, words in REFUSED] + ["run 2024-12-31", "book 2024-03-01 have EUR 1 own EUR -1 |"]:
            house = House()
            for one in START:
                answered(house, one)
            other = house_of(house_lines(house))
            self.assertEqual(answered(house, line), answered(other, line), line)
            self.assertIs(same_house(house, other), True, line)
            for question, answer in QUESTIONS:
                self.assertEqual(answered(house, question), answered(other, question), (line, question))

    def test_of_no_lines(self):
        self.assertIs(same_house(house_of([]), House()), True)
        self.assertEqual(house_of([]).orders, [])

    def test_lines_of_which_one_is_refused(self):
        for line, words in REFUSED:
            if line.split(" ")[0] in ("worth", "left", "statement"):
                continue
            name = "Uneven" if words.startswith("uneven") else "".join(word.capitalize() for word in words.split())
            need_refusal(self, name, house_of, START + [line])
            need_refusal(self, name, house_of, START + [line, "top x own"])

    def test_lines_that_are_no_orders(self):
        for line in NO_LINES + no_texts():
            need_refusal(self, "BadOrder", house_of, START[:3] + [line])
            need_refusal(self, "BadOrder", house_of, [line] + START)

    def test_the_first_refusal_is_it(self):
        need_refusal(self, "Twice", house_of, ["top a have", "top a have", "x"])
        need_refusal(self, "BadOrder", house_of, ["top a have", "x", "top a have"])

    def test_lines_stay_and_are_not_kept(self):
        lines = list(START)
        house = house_of(lines)
        self.assertEqual(lines, START)
        lines.clear()
        self.assertEqual(house_lines(house), START)


class SameHouse(unittest.TestCase):
    def differ(self, lines, other_lines):
        self.assertIs(same_house(house_of(lines), house_of(other_lines)), False, (lines[-1:], other_lines[-1:]))
        self.assertIs(same_house(house_of(other_lines), house_of(lines)), False)

    def alike(self, lines, other_lines):
        self.assertIs(same_house(house_of(lines), house_of(other_lines)), True)

    def test_itself_and_one_of_the_same_lines(self):
        house = house_of(LINES)
        self.assertIs(same_house(house, house), True)
        self.alike(LINES, LINES)

    def test_each_order_makes_a_difference(self):
        for many in range(1, len(LINES) + 1):
            if not LINES[many - 1].startswith("run 2024-12-31"):
                self.differ(LINES[:many - 1], LINES[:many])

    def test_one_bookings_note(self):
        for one, other in (("a", "b"), ("a", ""), ("a", "a b")):
            self.differ(START + ["book 2024-03-01 have EUR 1 own EUR -1 |" + (" " + one if one else "")],
                        START + ["book 2024-03-01 have EUR 1 own EUR -1 |" + (" " + other if other else "")])

    def test_one_bookings_day_rows_or_their_order(self):
        line = "book 2024-03-01 have EUR 1 own EUR -1 |"
        for other in ("book 2024-03-02 have EUR 1 own EUR -1 |", "book 2024-03-01 have EUR 2 own EUR -2 |",
                      "book 2024-03-01 own EUR -1 have EUR 1 |", "book 2024-03-01 have USD 1 own USD -1 |"):
            self.differ(START + [line], START + [other])

    def test_an_undoing_and_a_like_booking(self):
        start = START + ["book 2024-03-01 have EUR 1 own EUR -1 |"]
        self.differ(start + ["undo 6 2024-03-02 |"], start + ["book 2024-03-02 have EUR -1 own EUR 1 |"])

    def test_one_quote(self):
        for other in ("quote 2024-01-02 EUR 2 USD 3", "quote 2024-01-01 EUR 4 USD 6", "quote 2024-01-01 EUR 2 CHF 3"):
            self.differ(START + ["quote 2024-01-02 EUR 1 USD 1"], START + [other])
        self.differ(START, START + ["quote 2024-01-02 EUR 2 USD 3"])

    def test_one_budget(self):
        line = "budget x cost EUR 2024-01 2024-02 5 1,1"
        for other in ("budget y cost EUR 2024-01 2024-02 5 1,1", "budget x own EUR 2024-01 2024-02 5 1,1",
                      "budget x cost USD 2024-01 2024-02 5 1,1", "budget x cost EUR 2024-02 2024-03 5 1,1",
                      "budget x cost EUR 2024-01 2024-02 6 1,1", "budget x cost EUR 2024-01 2024-02 5 2,2"):
            self.differ(START + [line], START + [other])

    def test_one_standing_order(self):
        line = "standing x 2024-05-01 1 2 cost EUR 1 have EUR -1 |"
        for other in ("standing y 2024-05-01 1 2 cost EUR 1 have EUR -1 |", "standing x 2024-05-02 1 2 cost EUR 1 have EUR -1 |",
                      "standing x 2024-05-01 2 2 cost EUR 1 have EUR -1 |", "standing x 2024-05-01 1 3 cost EUR 1 have EUR -1 |",
                      "standing x 2024-05-01 1 2 cost EUR 2 have EUR -1 |", "standing x 2024-05-01 1 2 cost EUR 1 have EUR -1 | n"):
            self.differ(START + [line], START + [other])

    def test_how_many_of_its_days_were_gone_through(self):
        start = START + ["standing x 2024-03-01 1 3 no EUR 1 have EUR -1 |"]
        self.differ(start, start + ["run 2024-03-02"])
        self.differ(start + ["run 2024-03-02"], start + ["run 2024-03-02", "run 2024-04-01", "run 2024-05-01"])

    def test_one_accounts_span_kind_or_currency(self):
        self.differ(START + ["shut own:kept 2024-05-01"], START)
        self.differ(START + ["shut own:kept 2024-05-01"], START + ["shut own:kept 2024-05-02"])
        self.differ(START + ["add own:x any 2024-05-01"], START + ["add own:x any 2024-05-02"])
        self.differ(START + ["add own:x any 2024-05-01"], START + ["add own:x EUR 2024-05-01"])
        self.differ(START + ["top x own"], START + ["top x owe"])

    def test_one_seal(self):
        self.differ(START + ["close 2024-02 -"], START)
        one = house_of(START)
        other = house_of(START)
        other.seals.put((289, 0, ()))
        self.assertIs(same_house(one, other), False)

    def test_the_gate_alone(self):
        one = house_of(START)
        other = house_of(START)
        other.gate.shut(289)
        self.assertIs(same_house(one, other), False)

    def test_the_sums_alone(self):
        one = house_of(START)
        other = house_of(START)
        other.sums.put((0, 0, "", (("have", "EUR", 1),), None))
        self.assertIs(same_house(one, other), False)
        one.sums.put((0, 0, "", (("have", "EUR", 1),), None))
        self.assertIs(same_house(one, other), True)
        one.sums.put((0, 40, "", (("have", "EUR", 1), ("have", "EUR", -1)), None))
        self.assertIs(same_house(one, other), True)
        one.sums.put((0, 0, "", (("gain", "CHF", 1), ("gain", "CHF", -1)), None))
        self.assertIs(same_house(one, other), False)

    def test_the_order_in_which_sums_came(self):
        bookings = [(0, 0, "", (("owe", "EUR", 1),), None), (1, 40, "", (("own", "EUR", 2), ("owe", "EUR", 1)), None)]
        one = house_of(START)
        other = house_of(START)
        for booking in bookings:
            one.sums.put(booking)
        for booking in reversed(bookings):
            other.sums.put(booking)
        self.assertIs(same_house(one, other), True)

    def test_rows_of_orders_that_alone_differ(self):
        self.alike(["top a have", "top b own"], ["top b own", "top a have"])
        self.alike(START + ["run 2024-02-29"], START)
        self.alike(["quote 2024-01-01 EUR 2 USD 3"], ["quote 2024-01-01 USD 3 EUR 2"])
        self.alike(["quote 2024-01-01 EUR 1 USD 1", "quote 2024-01-01 EUR 2 USD 3"], ["quote 2024-01-01 EUR 2 USD 3"])
        self.alike(START + ["drop budget food"], [line for line in START if not line.startswith("budget")])
        self.alike(["close 2024-01 -"], ["close 2024-01 x"])

    def test_it_changes_nothing(self):
        one = house_of(START)
        other = house_of(LINES)
        same_house(one, other)
        self.assertEqual((house_lines(one), house_lines(other)), (START, LINES))


class WholeHouses(unittest.TestCase):
    """Long rows of orders by chance, some of which are refused: what is promised over the whole program holds."""

    def line(self, chance):
        day = "2024-%02d-%02d" % (chance.randrange(1, 13), chance.randrange(1, 29))
        path = ":".join([chance.choice(["have", "cost", "gain"])] + chance.choices("ab", k=chance.randrange(3)))
        currency = chance.choice(["EUR", "USD"])
        amount = chance.randrange(1, 99)
        turn = chance.randrange(9)
        if turn == 0:
            return "add %s %s %s" % (path, chance.choice(["any", currency]), day)
        if turn == 1:
            return "shut %s %s" % (path, day)
        if turn == 2:
            return "undo %d %s |" % (chance.randrange(20), day)
        if turn == 3:
            return "close 2024-%02d own" % chance.randrange(1, 13)
        if turn == 4:
            return "run " + day
        if turn == 5:
            return "standing %s %s 1 3 %s %s %d own %s %d |" % (chance.choice("xyz"), day, path, currency, amount, currency, -amount)
        if turn == 6:
            return "drop standing " + chance.choice("xyz")
        return "book %s %s %s %d own %s %d |" % (day, path, currency, amount, currency, -amount)

    def need_all(self, house):
        for told in house.seals.every():
            self.assertIs(holds(house.chart, house.journal, told), True)
        together = {}
        for path, own, within in report(house.chart, house.journal, 0, 146096):
            if ":" not in path:
                for currency, amount in within:
                    together[currency] = together.get(currency, 0) + amount
        self.assertEqual(set(together.values()) - {0}, set())
        for path in house.chart.accounts():
            for currency in house.sums.currencies(path):
                told = [row[2] for booking in house.journal.every() for row in booking[3] if row[:2] == (path, currency)]
                self.assertEqual(house.sums.standing(path, currency, 4799), sum(told))

    def test_alike_sealed_and_even(self):
        for seed in range(12):
            chance = random.Random(seed)
            house = house_of(["top have have", "top own own", "top gain gain", "top cost cost", "close 2023-12 own"])
            for step in range(120):
                answered(house, self.line(chance))
            self.need_all(house)
            other = house_of(house_lines(house))
            self.assertIs(same_house(house, other), True)
            for step in range(20):
                line = self.line(chance)
                self.assertEqual(answered(house, line), answered(other, line))
            self.assertIs(same_house(house, other), True)

    def test_each_refusal_is_a_house_error(self):
        chance = random.Random(99)
        for step in range(200):
            try:
                house_of([self.line(chance)])
            except HouseError as refusal:
                self.assertIsInstance(refusal, ValueError)


if __name__ == "__main__":
    unittest.main()
