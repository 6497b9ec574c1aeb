import unittest

from evenhall.closing import close
from evenhall.days import day_of, first_day, last_day
from evenhall.journal import Gate, Journal
from evenhall.running import run
from evenhall.seals import Seals, holds
from evenhall.standing import Standing
from things import chart_picture, hall, need_refusal, no_wholes

LAST = 146096
ROWS = [("have", "EUR", -5), ("cost", "EUR", 5)]
OTHER = [("have", "EUR", -7), ("cost", "EUR", 7)]


class Running(unittest.TestCase):
    def setUp(self):
        self.chart = hall(("have:late", "EUR", 60))
        self.gate = Gate()
        self.journal = Journal()
        self.standing = Standing()

    def run_to(self, until):
        return run(self.chart, self.gate, self.journal, self.standing, until)

    def test_what_is_booked(self):
        self.standing.put("rent", 31, 1, 3, "the rent", ROWS)
        self.assertEqual(self.run_to(60), [("rent", 31, 0), ("rent", 60, 1)])
        self.assertEqual(self.journal.every(), [(0, 31, "the rent", tuple(ROWS), None), (1, 60, "the rent", tuple(ROWS), None)])
        self.assertEqual(self.standing.done("rent"), 2)

    def test_again_up_to_the_same_day(self):
        self.standing.put("rent", 31, 1, 3, "", ROWS)
        self.run_to(60)
        self.assertEqual(self.run_to(60), [])
        self.assertEqual(self.run_to(10), [])
        self.assertEqual(self.journal.many(), 2)
        self.assertEqual(self.run_to(LAST), [("rent", 91, 2)])
        self.assertEqual(self.run_to(LAST), [])

    def test_by_days_and_of_one_day_by_names(self):
        self.standing.put("b", 31, 1, 2, "b", ROWS)
        self.standing.put("c", 10, 1, 2, "c", OTHER)
        self.standing.put("a", 31, 2, 2, "a", OTHER)
        told = self.run_to(91)
        self.assertEqual(told, [("c", 10, 0), ("a", 31, 1), ("b", 31, 2), ("c", 41, 3), ("b", 60, 4), ("a", 91, 5)])
        self.assertEqual([booking[1:3] for booking in self.journal.every()],
                         [(10, "c"), (31, "a"), (31, "b"), (41, "c"), (60, "b"), (91, "a")])

    def test_nothing(self):
        self.assertEqual(self.run_to(LAST), [])
        self.standing.put("rent", 31, 1, 3, "", ROWS)
        self.assertEqual(self.run_to(30), [])
        self.assertEqual(self.standing.done("rent"), 0)

    def test_rows_that_are_refused_are_gone_through(self):
        self.standing.put("late", 31, 1, 3, "", [("have:late", "EUR", -5), ("cost", "EUR", 5)])
        self.standing.put("none", 31, 1, 1, "", [("nowhere", "EUR", -5), ("cost", "EUR", 5)])
        self.standing.put("odd", 31, 1, 1, "", [("have", "EUR", -5), ("cost", "EUR", 4)])
        self.standing.put("wrong", 60, 1, 1, "", [("have:late", "USD", -5), ("cost", "USD", 5)])
        self.assertEqual(self.run_to(91), [("late", 31, None), ("none", 31, None), ("odd", 31, None), ("late", 60, 0),
                                           ("wrong", 60, None), ("late", 91, 1)])
        self.assertEqual([self.standing.done(name) for name in self.standing.names()], [3, 1, 1, 1])
        self.assertEqual(self.run_to(LAST), [])

    def test_closed_months(self):
        self.standing.put("rent", 15, 1, 4, "", ROWS)
        self.gate.shut(1)
        self.assertEqual(self.run_to(LAST)[:2], [("rent", 15, None), ("rent", 46, None)])
        self.assertEqual([booking[1] for booking in self.journal.every()], [day_of("2000-03-16"), day_of("2000-04-16")])

    def test_no_days(self):
        self.standing.put("rent", 0, 1, 4, "", ROWS)
        for until in no_wholes() + [-1, LAST + 1, 10 ** 5000]:
            need_refusal(self, "BadDay", self.run_to, until)
        self.assertEqual((self.standing.done("rent"), self.journal.many()), (0, 0))

    def test_the_first_and_the_last_day(self):
        self.standing.put("rent", 0, 120, 1000, "", ROWS)
        self.assertEqual(self.run_to(0), [("rent", 0, 0)])
        self.standing.put("end", LAST, 1, 1, "", ROWS)
        self.assertEqual(self.run_to(LAST - 1)[-1][1], day_of("2390-01-01"))
        self.assertEqual(self.run_to(LAST), [("end", LAST, 40)])

    def test_seals_hold(self):
        seals = Seals()
        self.standing.put("rent", 15, 1, 30, "", ROWS)
        self.run_to(70)
        for month in range(3):
            close(self.chart, self.gate, self.journal, seals, month, None)
        self.standing.put("late", 0, 1, 30, "", ROWS)
        self.run_to(LAST)
        self.assertEqual([holds(self.chart, self.journal, told) for told in seals.every()], [True] * 3)
        self.assertEqual([booking[1] for booking in self.journal.every() if booking[1] <= last_day(2)], [15, 46])
        self.assertIn(first_day(3), [booking[1] for booking in self.journal.every()])

    def test_nothing_else_is_changed(self):
        self.standing.put("rent", 15, 1, 3, "", ROWS)
        before = (chart_picture(self.chart), self.gate.closed(), self.standing.terms("rent"))
        told = self.run_to(50)
        told.clear()
        self.assertEqual((chart_picture(self.chart), self.gate.closed(), self.standing.terms("rent")), before)
        self.assertEqual(self.standing.done("rent"), 2)


if __name__ == "__main__":
    unittest.main()
