import unittest

from evenhall.budgets import Budgets
from evenhall.days import first_day, last_day
from evenhall.journal import Journal
from evenhall.watch import done_by, left, over
from things import journal_of, need_refusal, no_texts

FAR = 10 ** 30


class Watch(unittest.TestCase):
    def setUp(self):
        self.budgets = Budgets()
        self.budgets.put("food", "cost:food", "EUR", 10, 12, 300, [1, 1, 1])
        self.journal = journal_of(
            (last_day(9), ("cost:food", "EUR", 1)),
            (first_day(10), ("cost:food", "EUR", 10), ("have", "EUR", -10)),
            (last_day(10), ("cost:food:out", "EUR", 100), ("cost:food", "USD", 7)),
            (first_day(11), ("cost:foods", "EUR", 5000), ("cost", "EUR", 5000)),
            (first_day(11), ("cost:food", "EUR", 1000), ("cost:food:a:b:c:d", "EUR", -500)),
            (last_day(12), ("cost:food", "EUR", 10000)),
            (first_day(13), ("cost:food", "EUR", 100000)))

    def test_done_by(self):
        for month, told in ((-FAR, 0), (-1, 0), (0, 0), (9, 0), (10, 110), (11, 610), (12, 10610), (13, 10610),
                            (4799, 10610), (FAR, 10610)):
            self.assertEqual(done_by(self.budgets, self.journal, "food", month), told, month)

    def test_left(self):
        for month, told in ((-FAR, 0), (9, 0), (10, -10), (11, -410), (12, -10310), (13, -10310), (FAR, -10310)):
            self.assertEqual(left(self.budgets, self.journal, "food", month), told, month)

    def test_nothing_booked(self):
        self.assertEqual(done_by(self.budgets, Journal(), "food", 11), 0)
        self.assertEqual(left(self.budgets, Journal(), "food", 11), 200)

    def test_accounts_that_are_none(self):
        self.budgets.put("other", "no:such", "EUR", 10, 10, 5, [1])
        journal = journal_of((first_day(10), ("no:such:one", "EUR", 3)))
        self.assertEqual(done_by(self.budgets, journal, "other", 10), 3)
        self.assertEqual(left(self.budgets, journal, "other", 10), 2)

    def test_a_budget_of_one_month(self):
        self.budgets.put("one", "cost:food", "EUR", 13, 13, 5, [1])
        self.assertEqual([done_by(self.budgets, self.journal, "one", month) for month in (12, 13, 14)], [0, 100000, 100000])

    def test_over(self):
        self.budgets.put("b", "have", "EUR", 10, 10, -20, [1])
        self.budgets.put("even", "have", "EUR", 10, 10, -10, [1])
        self.budgets.put("a", "have", "EUR", 10, 11, -30, [1, 1])
        self.budgets.put("late", "cost:food", "EUR", 13, 13, 5, [1])
        end = [("a", 20), ("b", 10), ("food", 10310), ("late", 99995)]
        for month, told in ((-FAR, []), (9, []), (10, [("a", 5), ("b", 10), ("food", 10)]),
                            (11, [("a", 20), ("b", 10), ("food", 410)]), (12, end[:3]), (13, end), (FAR, end)):
            self.assertEqual(over(self.budgets, self.journal, month), told, month)

    def test_over_is_left_below_nought(self):
        self.budgets.put("more", "have", "EUR", 10, 10, -11, [1])
        self.assertEqual(left(self.budgets, self.journal, "more", 10), -1)
        self.assertEqual(over(self.budgets, self.journal, 10), [("food", 10), ("more", 1)])

    def test_over_of_a_plan_below_nought_ahead_of_its_months(self):
        self.budgets.put("more", "have", "EUR", 12, 12, -11, [1])
        self.assertEqual([name for name, amount in over(self.budgets, self.journal, 11)], ["food"])
        self.assertEqual([name for name, amount in over(self.budgets, self.journal, 12)], ["food", "more"])

    def test_no_budget(self):
        for thing in no_texts() + ["", "foo", "FOOD", "food\n"]:
            for asked in (done_by, left):
                need_refusal(self, "NoBudget", asked, self.budgets, self.journal, thing, 11)

    def test_told_lists_are_the_askers_own(self):
        told = over(self.budgets, self.journal, 11)
        self.assertIs(type(told), list)
        told.clear()
        self.assertEqual(over(self.budgets, self.journal, 11), [("food", 410)])
        self.assertEqual(over(Budgets(), self.journal, 11), [])

    def test_nothing_is_changed(self):
        before = (self.journal.every(), self.budgets.terms("food"))
        over(self.budgets, self.journal, 11)
        self.assertEqual((self.journal.every(), self.budgets.terms("food")), before)


if __name__ == "__main__":
    unittest.main()
