import unittest

from evenhall.days import first_day, last_day
from evenhall.journal import Journal
from evenhall.seals import Seals, holds, seal
from things import hall, journal_of, need_refusal, no_wholes


class OneSeal(unittest.TestCase):
    def setUp(self):
        self.chart = hall(("have:a", None, 0))
        self.journal = journal_of(
            (first_day(5), ("have:a", "EUR", 3), ("own", "EUR", -3)),
            (last_day(5), ("have", "EUR", 1), ("own", "EUR", -1)),
            (first_day(6), ("have:a", "EUR", -3), ("own", "EUR", 3)),
            (first_day(3), ("have:a", "USD", 2), ("own", "USD", -2)))

    def test_of_months_with_and_without_bookings(self):
        early = (("have:a", "USD", 2), ("own", "USD", -2))
        fifth = (("have", "EUR", 1), ("have:a", "EUR", 3), ("have:a", "USD", 2), ("own", "EUR", -4), ("own", "USD", -2))
        sixth = (("have", "EUR", 1), ("have:a", "USD", 2), ("own", "EUR", -1), ("own", "USD", -2))
        for month, many, rows in ((0, 0, ()), (2, 0, ()), (3, 1, early), (4, 1, early), (5, 3, fifth), (6, 4, sixth),
                                  (7, 4, sixth), (4799, 4, sixth)):
            self.assertEqual(seal(self.chart, self.journal, month), (month, many, rows))

    def test_of_nothing(self):
        self.assertEqual(seal(self.chart, Journal(), 0), (0, 0, ()))

    def test_kinds(self):
        told = seal(self.chart, self.journal, 5)
        self.assertTrue(type(told) is tuple and type(told[2]) is tuple and all(type(row) is tuple for row in told[2]))

    def test_no_months(self):
        for thing in no_wholes() + [-1, 4800, 10 ** 5000]:
            need_refusal(self, "BadMonth", seal, self.chart, self.journal, thing)

    def test_it_holds(self):
        for month in (0, 3, 5, 6, 4799):
            self.assertIs(holds(self.chart, self.journal, seal(self.chart, self.journal, month)), True)

    def test_another_month_count_or_row(self):
        month, many, rows = seal(self.chart, self.journal, 5)
        for told in ((4, many, rows), (6, many, rows), (month, many - 1, rows), (month, many + 1, rows),
                     (month, many, rows[1:]), (month, many, rows[:-1]), (month, many, rows + (("z", "EUR", 1),)),
                     (month, many, (("have", "EUR", 2),) + rows[1:]), (month, many, (("have", "CHF", 1),) + rows[1:]),
                     (month, many, tuple(reversed(rows))), (month, many, ())):
            self.assertIs(holds(self.chart, self.journal, told), False, told)

    def test_a_month_beyond(self):
        for month in (-1, 4800):
            self.assertIs(holds(self.chart, self.journal, (month, 4, ())), False)

    def test_what_is_booked_later_within_or_ahead_breaks_it(self):
        told = seal(self.chart, self.journal, 5)
        self.journal.put(first_day(6), "", [("have", "EUR", 9)], None)
        self.assertIs(holds(self.chart, self.journal, told), True)
        self.journal.put(last_day(5), "", [("have", "EUR", 9)], None)
        self.assertIs(holds(self.chart, self.journal, told), False)

    def test_what_comes_to_nought_counts_all_the_same(self):
        told = seal(self.chart, self.journal, 5)
        self.journal.put(0, "", [("have", "EUR", 9), ("have", "EUR", -9)], None)
        self.assertIs(holds(self.chart, self.journal, told), False)


class ManySeals(unittest.TestCase):
    def test_as_put(self):
        seals = Seals()
        self.assertEqual(seals.every(), [])
        self.assertIsNone(seals.put((5, 0, ())))
        self.assertIsNone(seals.put((3, 1, (("a", "EUR", 1),))))
        self.assertEqual(seals.every(), [(5, 0, ()), (3, 1, (("a", "EUR", 1),))])

    def test_told_lists_are_the_askers_own(self):
        seals = Seals()
        seals.put((5, 0, ()))
        told = seals.every()
        seals.put((6, 0, ()))
        self.assertEqual(told, [(5, 0, ())])
        told.clear()
        self.assertEqual(seals.every(), [(5, 0, ()), (6, 0, ())])
        self.assertEqual(Seals().every(), [])


if __name__ == "__main__":
    unittest.main()
