import unittest

from evenhall.days import day_of, first_day, last_day
from evenhall.journal import Gate, Journal
from things import need_order, need_refusal, no_wholes

LAST = 146096
ROWS = [("a", "EUR", 5), ("b", "EUR", -5)]


class Gates(unittest.TestCase):
    def test_nothing_is_closed_at_first(self):
        gate = Gate()
        self.assertIsNone(gate.closed())
        for day in (0, 5000, LAST):
            self.assertIs(gate.lets(day), True)

    def test_the_first_month_may_be_any(self):
        for month in (0, 1, 288, 4798, 4799):
            gate = Gate()
            self.assertIsNone(gate.shut(month))
            self.assertEqual(gate.closed(), month)

    def test_only_the_next_one_then(self):
        gate = Gate()
        gate.shut(288)
        for month in (0, 287, 288, 290, 300, 4799):
            need_refusal(self, "NotNext", gate.shut, month)
            self.assertEqual(gate.closed(), 288)
        gate.shut(289)
        gate.shut(290)
        self.assertEqual(gate.closed(), 290)
        need_refusal(self, "NotNext", gate.shut, 290)

    def test_behind_the_first_month_too(self):
        gate = Gate()
        gate.shut(0)
        need_refusal(self, "NotNext", gate.shut, 0)
        need_refusal(self, "NotNext", gate.shut, 2)
        gate.shut(1)
        self.assertEqual(gate.closed(), 1)

    def test_no_months(self):
        for thing in no_wholes() + [-1, 4800, 10 ** 5000]:
            gate = Gate()
            need_refusal(self, "BadMonth", gate.shut, thing)
            self.assertIsNone(gate.closed())
            gate.shut(4799)
            need_refusal(self, "BadMonth", gate.shut, thing)

    def test_bad_month_ahead_of_not_next(self):
        gate = Gate()
        gate.shut(0)
        need_order(self, gate.shut, (1,), (("BadMonth", {0: True}), ("BadMonth", {0: -1}), ("NotNext", {0: 0})))

    def test_days_about_the_ends_of_months(self):
        gate = Gate()
        gate.shut(289)
        for text, told in (("2000-01-01", False), ("2024-01-31", False), ("2024-02-01", False), ("2024-02-28", False),
                           ("2024-02-29", False), ("2024-03-01", True), ("2024-03-31", True), ("2399-12-31", True)):
            self.assertIs(gate.lets(day_of(text)), told, text)
        gate.shut(290)
        self.assertIs(gate.lets(last_day(290)), False)
        self.assertIs(gate.lets(first_day(291)), True)

    def test_the_first_and_the_last_month(self):
        gate = Gate()
        gate.shut(0)
        self.assertEqual([gate.lets(day) for day in (0, 30, 31)], [False, False, True])
        last = Gate()
        last.shut(4799)
        self.assertEqual([last.lets(day) for day in (0, LAST)], [False, False])

    def test_two_gates_are_two(self):
        one = Gate()
        one.shut(5)
        self.assertIsNone(Gate().closed())


class Journals(unittest.TestCase):
    def test_nothing_at_first(self):
        journal = Journal()
        self.assertEqual((journal.many(), journal.every()), (0, []))
        for asked in (journal.booking, journal.undone_by):
            need_refusal(self, "NoBooking", asked, 0)

    def test_numbers_go_up_from_nought(self):
        journal = Journal()
        self.assertEqual([journal.put(day, "n", ROWS, None) for day in (9, 3, 9)], [0, 1, 2])
        self.assertEqual(journal.many(), 3)
        self.assertEqual([booking[:2] for booking in journal.every()], [(0, 9), (1, 3), (2, 9)])

    def test_a_booking(self):
        journal = Journal()
        journal.put(9, "rent", ROWS, None)
        journal.put(11, "", tuple(ROWS[:1]), 0)
        self.assertEqual(journal.booking(0), (0, 9, "rent", tuple(ROWS), None))
        self.assertEqual(journal.booking(1), (1, 11, "", (("a", "EUR", 5),), 0))
        self.assertEqual(journal.every(), [journal.booking(0), journal.booking(1)])
        self.assertIs(type(journal.booking(0)), tuple)
        self.assertIs(type(journal.booking(0)[3]), tuple)

    def test_it_asks_nothing(self):
        journal = Journal()
        rows = [("nowhere", "EUR", 10 ** 40)] * 500
        self.assertEqual(journal.put(LAST, "", rows, None), 0)
        self.assertEqual(journal.put(0, "", [], None), 1)
        self.assertEqual(journal.booking(0)[3], tuple(rows))

    def test_rows_that_are_changed_behind_the_call(self):
        journal = Journal()
        rows = list(ROWS)
        journal.put(9, "", rows, None)
        rows.append(("c", "EUR", 1))
        rows[0] = ("x", "EUR", 1)
        self.assertEqual(journal.booking(0)[3], tuple(ROWS))

    def test_told_lists_are_the_askers_own(self):
        journal = Journal()
        journal.put(9, "", ROWS, None)
        told = journal.every()
        journal.put(10, "", ROWS, None)
        self.assertEqual(len(told), 1)
        told.clear()
        self.assertEqual(len(journal.every()), 2)
        self.assertEqual(journal.many(), 2)

    def test_no_booking(self):
        journal = Journal()
        journal.put(9, "", ROWS, None)
        journal.put(9, "", ROWS, None)
        for thing in no_wholes() + [-1, -2, 2, 3, 10 ** 5000]:
            for asked in (journal.booking, journal.undone_by):
                need_refusal(self, "NoBooking", asked, thing)

    def test_undone_by(self):
        journal = Journal()
        for undoes in (None, None, 0, None, 1):
            journal.put(9, "", ROWS, undoes)
        self.assertEqual([journal.undone_by(number) for number in range(5)], [2, 4, None, None, None])

    def test_two_journals_are_two(self):
        one = Journal()
        one.put(9, "", ROWS, None)
        self.assertEqual(Journal().every(), [])


if __name__ == "__main__":
    unittest.main()
