import unittest

from evenhall.house import House
from evenhall.keeps import all_told
from evenhall.shell import answered, played
from things import BEGINNING, ENDING, NO_LINES, QUESTIONS, REFUSED, no_texts


def house_with(story):
    house = House()
    for line, answer in story:
        answered(house, line)
    return house


class Answered(unittest.TestCase):
    def test_a_whole_story(self):
        house = House()
        for line, answer in BEGINNING + QUESTIONS + ENDING:
            told = answered(house, line)
            self.assertEqual(told, answer, line)
            self.assertIs(type(told), list)

    def test_refusals(self):
        house = house_with(BEGINNING)
        before = (all_told(house), house.orders)
        for line, words in REFUSED:
            self.assertEqual(answered(house, line), [words], line)
            self.assertEqual((all_told(house), house.orders), before, line)

    def test_all_words_that_lines_can_bring_about(self):
        self.assertEqual(len({words for line, words in REFUSED}), 24)

    def test_bad_month_and_bad_kind_of_closing(self):
        house = house_with(BEGINNING + ENDING[:-1])
        for line, words in (("close 2024-12 -", "no account"), ("close 2024-12 x", "no account"),
                            ("close 2024-12 have", "bad kind"), ("close 2025-01 -", "not next")):
            self.assertEqual(answered(house, line), [words])
        self.assertEqual(answered(house, "close 2024-12 own:kept"), ENDING[-1][1])

    def test_lines_that_are_no_orders(self):
        house = house_with(BEGINNING)
        before = (all_told(house), house.orders)
        for line in NO_LINES + no_texts():
            self.assertEqual(answered(house, line), ["bad order"])
        self.assertEqual((all_told(house), house.orders), before)

    def test_nothing(self):
        for line in ("accounts", "seals", "over 2024-01", "balances 2024-01-01", "run 2024-01-01", "report 2024-01-01 2024-01-01",
                     "worth EUR 2024-01-01"):
            self.assertEqual(answered(House(), line), ["nothing"], line)

    def test_a_run_of_nothing_is_among_the_orders(self):
        house = House()
        answered(house, "run 2024-01-01")
        self.assertEqual(len(house.orders), 1)

    def test_questions_are_not_among_the_orders(self):
        house = house_with(BEGINNING)
        before = (all_told(house), house.orders)
        for line, answer in QUESTIONS:
            answered(house, line)
        self.assertEqual((all_told(house), house.orders), before)

    def test_a_question_is_answered_the_same_whatever_was_asked_or_refused_ahead(self):
        house = House()
        for line, answer in BEGINNING:
            for asked, told in QUESTIONS:
                answered(house, asked)
            for refused in NO_LINES:
                answered(house, refused)
            self.assertEqual(answered(house, line), answer, line)
        for line, words in REFUSED:
            answered(house, line)
            for asked, told in QUESTIONS:
                self.assertEqual(answered(house, asked), told, (line, asked))

    def test_two_houses_by_turns(self):
        one = House()
        other = House()
        story = BEGINNING + QUESTIONS + ENDING
        for at in range(len(story) + 3):
            if at < len(story):
                self.assertEqual(answered(one, story[at][0]), story[at][1])
            if at >= 3:
                self.assertEqual(answered(other, story[at - 3][0]), story[at - 3][1])

    def test_told_lists_are_the_askers_own(self):
        house = house_with(BEGINNING)
        for line, answer in QUESTIONS:
            answered(house, line).clear()
            self.assertEqual(answered(house, line), answer)

    def test_a_refused_line_that_is_good_later(self):
        house = house_with(BEGINNING[:5])
        self.assertEqual(answered(house, "add have:a:b any 2024-01-01"), ["no account"])
        self.assertEqual(answered(house, "add have:a any 2024-01-01"), ["done"])
        self.assertEqual(answered(house, "add have:a:b any 2024-01-01"), ["done"])


class Played(unittest.TestCase):
    def test_an_answer_for_each_line(self):
        story = BEGINNING + QUESTIONS + ENDING
        lines = [line for line, answer in story]
        self.assertEqual(played(lines), [answer for line, answer in story])
        self.assertEqual(lines, [line for line, answer in story])

    def test_a_new_house_each_time(self):
        self.assertEqual(played(["top a have", "top a have"]), [["done"], ["twice"]])
        self.assertEqual(played(["top a have", "accounts"]), [["done"], ["a have any 2000-01-01 open"]])

    def test_of_no_lines(self):
        self.assertEqual(played([]), [])

    def test_with_refusals_between(self):
        lines = [line for line, answer in BEGINNING] + [line for line, words in REFUSED] + NO_LINES + [None, 5]
        wanted = [answer for line, answer in BEGINNING] + [[words] for line, words in REFUSED]
        wanted = wanted + [["bad order"]] * (len(NO_LINES) + 2)
        self.assertEqual(played(lines + ["seals"]), wanted + [QUESTIONS[-1][1]])

    def test_told_lists_are_the_askers_own(self):
        told = played(["accounts", "accounts"])
        told[0].append("x")
        self.assertEqual(told, [["nothing", "x"], ["nothing"]])
        self.assertEqual(played(["accounts"]), [["nothing"]])


if __name__ == "__main__":
    unittest.main()
