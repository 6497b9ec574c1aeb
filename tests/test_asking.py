import unittest

from evenhall.asking import answer_of
from evenhall.doing import is_deed
from evenhall.house import House
from evenhall.keeps import all_told, house_of
from evenhall.orders import order_of
from things import BEGINNING, ENDING, QUESTIONS, REFUSED, need_refusal


def house_with(story):
    return house_of([line for line, answer in story])


class AnswerOf(unittest.TestCase):
    def test_each_question(self):
        house = house_with(BEGINNING)
        for line, answer in QUESTIONS:
            told = answer_of(house, order_of(line))
            self.assertEqual(told, [] if answer == ["nothing"] else answer, line)
            self.assertIs(type(told), list)

    def test_of_a_new_house(self):
        for line in ("accounts", "report 2024-01-01 2024-12-31", "balances 2024-12-31", "worth EUR 2024-12-31", "over 2024-01",
                     "seals"):
            self.assertEqual(answer_of(House(), order_of(line)), [], line)
        self.assertEqual(answer_of(House(), order_of("months a EUR 2024-01 2024-12")), ["0"])

    def test_all_seals_with_a_carry(self):
        house = house_with(BEGINNING + ENDING)
        wanted = [line for order, answer in BEGINNING + ENDING if order.startswith("close") for line in answer]
        self.assertEqual(answer_of(house, ("seals",)), wanted)
        self.assertEqual(answer_of(house, order_of("months own:kept EUR 2024-12 2024-12")), ["-920"])

    def test_several_budgets_over(self):
        house = house_with(BEGINNING + [("budget a cost EUR 2024-01 2024-01 5 1", None),
                                        ("budget pay gain EUR 2024-01 2024-01 -999 1", None)])
        self.assertEqual(answer_of(house, ("over", 288)), ["a 85", "food 16"])
        self.assertEqual(answer_of(house, ("left", "pay", 288)), ["1"])

    def test_refused_as_what_it_calls(self):
        house = house_with(BEGINNING)
        before = (all_told(house), house.orders)
        for line, words in REFUSED:
            order = order_of(line)
            if not is_deed(order):
                name = "".join(word.capitalize() for word in words.split())
                need_refusal(self, name, answer_of, house, order)
        need_refusal(self, "BadDay", answer_of, house, ("worth", "EUR", -1))
        self.assertEqual((all_told(house), house.orders), before)

    def test_it_changes_nothing_and_is_not_among_the_orders(self):
        house = house_with(BEGINNING)
        before = (all_told(house), house.orders)
        for line, answer in QUESTIONS:
            answer_of(house, order_of(line)).append("x")
            self.assertEqual((all_told(house), house.orders), before, line)
        for line, answer in QUESTIONS:
            self.assertEqual(answer_of(house, order_of(line)), [] if answer == ["nothing"] else answer, line)

    def test_orders_that_change_a_house_are_no_questions(self):
        house = House()
        for line, answer in BEGINNING:
            need_refusal(self, "BadOrder", answer_of, house, order_of(line))
        self.assertEqual(house.chart.accounts(), [])

    def test_a_statement_with_nought(self):
        house = house_with(BEGINNING)
        self.assertEqual(answer_of(house, order_of("statement have USD 2024-02-01 2024-03-01")),
                         ["opening 0", "4 2024-02-10 0 0"])

    def test_great_numbers(self):
        house = house_with(BEGINNING[:5])
        for day in range(3):
            house.journal.put(day, "", [("have", "EUR", 10 ** 15), ("own", "EUR", -10 ** 15)], None)
        self.assertEqual(answer_of(house, ("balances", 5)), ["have EUR 3" + "0" * 15, "own EUR -3" + "0" * 15])


if __name__ == "__main__":
    unittest.main()
