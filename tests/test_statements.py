import unittest

from evenhall.journal import Journal
from evenhall.statements import statement
from things import hall, journal_of, need_refusal, no_texts

LAST = 146096


class Statements(unittest.TestCase):
    def setUp(self):
        self.chart = hall(("have:a", None, 0), ("have:a:b", None, 0), ("have:ab", None, 0))
        self.journal = journal_of(
            (20, ("have:a", "EUR", 100), ("own", "EUR", -100)),
            (10, ("have:a:b", "EUR", 30), ("own", "EUR", -30)),
            (30, ("have:a", "EUR", 5), ("have:a:b", "EUR", -5), ("own", "EUR", 1)),
            (20, ("have:ab", "EUR", 1000), ("own", "EUR", -1000)),
            (20, ("have:a", "USD", 7), ("own", "USD", -7)),
            (10, ("have:a", "EUR", 1), ("have:a", "EUR", 2), ("own", "EUR", -3)),
            (40, ("have:a:b", "EUR", -8), ("own", "EUR", 8)))

    def told(self, path, currency, first, last):
        return statement(self.chart, self.journal, path, currency, first, last)

    def test_by_days_and_numbers(self):
        self.assertEqual(self.told("have:a", "EUR", 0, LAST), (0, [
            (1, 10, 30, 30), (5, 10, 3, 33), (0, 20, 100, 133), (2, 30, 0, 133), (6, 40, -8, 125)]))

    def test_it_begins_with_what_lies_ahead_of_the_first_day(self):
        self.assertEqual(self.told("have:a", "EUR", 20, 30), (33, [(0, 20, 100, 133), (2, 30, 0, 133)]))
        self.assertEqual(self.told("have:a", "EUR", 11, 20), (33, [(0, 20, 100, 133)]))
        self.assertEqual(self.told("have:a", "EUR", 10, 10), (0, [(1, 10, 30, 30), (5, 10, 3, 33)]))
        self.assertEqual(self.told("have:a", "EUR", 21, 29), (133, []))
        self.assertEqual(self.told("have:a", "EUR", 41, LAST), (125, []))

    def test_lines_of_nought_are_there_by_their_rows(self):
        self.assertEqual(self.told("have:a", "EUR", 30, 30), (133, [(2, 30, 0, 133)]))
        self.assertEqual(self.told("have:a:b", "EUR", 30, 30), (30, [(2, 30, -5, 25)]))

    def test_within_and_not_beside(self):
        self.assertEqual(self.told("have:a:b", "EUR", 0, LAST), (0, [(1, 10, 30, 30), (2, 30, -5, 25), (6, 40, -8, 17)]))
        self.assertEqual(self.told("have:ab", "EUR", 0, LAST), (0, [(3, 20, 1000, 1000)]))
        self.assertEqual(self.told("have", "EUR", 20, 20), (33, [(0, 20, 100, 133), (3, 20, 1000, 1133)]))

    def test_another_currency(self):
        self.assertEqual(self.told("have:a", "USD", 0, LAST), (0, [(4, 20, 7, 7)]))
        self.assertEqual(self.told("have:a", "USD", 21, LAST), (7, []))
        self.assertEqual(self.told("have:a", "CHF", 0, LAST), (0, []))

    def test_first_behind_last(self):
        self.assertEqual(self.told("have:a", "EUR", 21, 19), (133, []))
        self.assertEqual(self.told("have:a", "EUR", 40, 10), (133, []))
        self.assertEqual(self.told("have:a", "EUR", LAST, 0), (125, []))

    def test_nothing_booked(self):
        self.assertEqual(statement(self.chart, Journal(), "have", "EUR", 0, LAST), (0, []))
        self.assertEqual(self.told("gain", "EUR", 0, LAST), (0, []))

    def test_no_account(self):
        for path in no_texts() + ["", "x", "have:x", "have:a:b:c", "HAVE", "have:a\n"]:
            need_refusal(self, "NoAccount", self.told, path, "EUR", 0, LAST)

    def test_kinds_of_what_is_told(self):
        told = self.told("have", "EUR", 0, LAST)
        self.assertIs(type(told), tuple)
        self.assertIs(type(told[1]), list)
        self.assertTrue(all(type(line) is tuple for line in told[1]))

    def test_told_lists_are_the_askers_own(self):
        told = self.told("have:a", "EUR", 0, 15)
        self.journal.put(9, "", [("have:a", "EUR", 1)], None)
        self.assertEqual(told, (0, [(1, 10, 30, 30), (5, 10, 3, 33)]))
        told[1].clear()
        self.assertEqual(self.told("have:a", "EUR", 0, 15), (0, [(7, 9, 1, 1), (1, 10, 30, 31), (5, 10, 3, 34)]))

    def test_bookings_stay_as_they_are(self):
        before = self.journal.every()
        self.told("have", "EUR", 0, LAST)
        self.assertEqual(self.journal.every(), before)


if __name__ == "__main__":
    unittest.main()
