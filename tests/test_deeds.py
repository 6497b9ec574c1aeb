import unittest

from evenhall.days import first_day, last_day
from evenhall.deeds import book, undo
from evenhall.errors import HouseError, Uneven
from evenhall.journal import Gate, Journal
from things import chart_picture, hall, need_order, need_refusal, no_texts, no_wholes

LAST = 146096
ROWS = [("have:cash", "EUR", 500), ("own", "EUR", -500)]
NO_NOTES = [" a", "a ", " ", "n" * 41, "a\n", "a\tb"]


class Deeds(unittest.TestCase):
    """Month 0 is closed; have:old was open on days 0 to 99."""

    def setUp(self):
        self.chart = hall(("have:cash", "EUR", 0), ("have:late", "EUR", 60), ("have:old", "EUR", 0))
        self.chart.shut("have:old", 100)
        self.gate = Gate()
        self.gate.shut(0)
        self.journal = Journal()

    def book(self, day, note, rows):
        return book(self.chart, self.gate, self.journal, day, note, rows)

    def undo(self, number, day, note):
        return undo(self.chart, self.gate, self.journal, number, day, note)

    def picture(self):
        return (chart_picture(self.chart), self.gate.closed(), self.journal.every(),
                [self.journal.undone_by(number) for number in range(self.journal.many())])


class Booking(Deeds):
    def test_what_is_booked(self):
        self.assertEqual(self.book(50, "rent", ROWS), 0)
        self.assertEqual(self.book(40, "", list(reversed(ROWS))), 1)
        self.assertEqual(self.journal.every(), [(0, 50, "rent", tuple(ROWS), None),
                                                (1, 40, "", tuple(reversed(ROWS)), None)])

    def test_rows_that_are_changed_behind_the_call(self):
        rows = list(ROWS)
        self.book(50, "", rows)
        rows.clear()
        self.assertEqual(self.journal.booking(0)[3], tuple(ROWS))

    def test_rows_stay_as_they_are(self):
        rows = list(ROWS)
        self.book(50, "", rows)
        self.assertEqual(rows, ROWS)

    def test_no_days(self):
        for day in no_wholes() + [-1, LAST + 1, 10 ** 5000]:
            need_refusal(self, "BadDay", self.book, day, "", ROWS)
        self.assertEqual(self.book(LAST, "", ROWS), 0)

    def test_no_notes(self):
        for note in no_texts() + NO_NOTES:
            need_refusal(self, "BadNote", self.book, 50, note, ROWS)
        self.assertEqual(self.book(50, "n" * 40, ROWS), 0)

    def test_closed_months(self):
        for day in (0, 15, 30):
            need_refusal(self, "Closed", self.book, day, "", ROWS)
        self.assertEqual(self.book(31, "", ROWS), 0)

    def test_rows_that_are_refused(self):
        for rows in (None, (), tuple(ROWS), ROWS[:1], ROWS * 101, ROWS + [5], ROWS + [("own", "EUR", 0)]):
            need_refusal(self, "BadRow", self.book, 50, "", rows)
        need_refusal(self, "NoAccount", self.book, 50, "", ROWS + [("x", "EUR", 1)])
        need_refusal(self, "NotOpen", self.book, 50, "", ROWS + [("have:late", "EUR", 1)])
        need_refusal(self, "NotOpen", self.book, 100, "", ROWS + [("have:old", "EUR", 1)])
        need_refusal(self, "BadCurrency", self.book, 50, "", ROWS + [("have:cash", "USD", 1)])
        with self.assertRaises(Uneven) as taken:
            self.book(50, "", ROWS + [("own", "USD", 1)])
        self.assertEqual(taken.exception.currency, "USD")

    def test_the_first_refusal(self):
        before = self.picture()
        need_order(self, self.book, (50, "", ROWS), (
            ("BadDay", {0: -1}), ("BadNote", {1: " "}), ("Closed", {0: 30}), ("BadRow", {2: ROWS[:1]}),
            ("NoAccount", {2: ROWS + [("x", "EUR", 1)]}), ("NotOpen", {2: ROWS + [("have:late", "EUR", 1)]}),
            ("BadCurrency", {2: ROWS + [("have:cash", "USD", 1)]}), ("Uneven", {2: ROWS + [("own", "EUR", 1)]})))
        self.assertEqual(self.picture(), before)


class Undoing(Deeds):
    def setUp(self):
        Deeds.setUp(self)
        self.book(50, "rent", ROWS)

    def test_what_is_booked(self):
        self.assertEqual(self.undo(0, 70, "wrong"), 1)
        self.assertEqual(self.journal.booking(1), (1, 70, "wrong", (("have:cash", "EUR", -500), ("own", "EUR", 500)), 0))
        self.assertEqual(self.journal.booking(0), (0, 50, "rent", tuple(ROWS), None))
        self.assertEqual(self.journal.undone_by(0), 1)
        self.assertIsNone(self.journal.undone_by(1))

    def test_no_booking(self):
        for number in no_wholes() + [-1, 1, 10 ** 5000]:
            need_refusal(self, "NoBooking", self.undo, number, 70, "")

    def test_told_twice(self):
        self.undo(0, 70, "")
        need_refusal(self, "Undone", self.undo, 0, 70, "")
        need_refusal(self, "Undone", self.undo, 0, 90, "again")

    def test_of_one_that_undoes(self):
        self.undo(0, 70, "")
        need_refusal(self, "Undone", self.undo, 1, 70, "")
        self.assertEqual(self.journal.many(), 2)

    def test_days(self):
        for day in no_wholes() + [-1, 49, 31, LAST + 1, 10 ** 5000]:
            need_refusal(self, "BadDay", self.undo, 0, day, "")
        self.assertEqual(self.undo(0, 50, ""), 1)

    def test_no_notes(self):
        for note in no_texts() + NO_NOTES:
            need_refusal(self, "BadNote", self.undo, 0, 70, note)

    def test_closed_months(self):
        self.gate.shut(1)
        for day in (50, last_day(1)):
            need_refusal(self, "Closed", self.undo, 0, day, "")
        self.assertEqual(self.undo(0, first_day(2), ""), 1)

    def test_of_an_account_that_was_shut(self):
        number = self.book(50, "", [("own", "EUR", -1), ("have:old", "EUR", 1)])
        for day in (100, 101, LAST):
            need_refusal(self, "NotOpen", self.undo, number, day, "")
        self.assertEqual(self.undo(number, 99, ""), 2)

    def test_rows_of_a_carry_are_not_asked_for_their_form(self):
        rows = [("have", "EUR", 10 ** 20)] * 300
        number = self.journal.put(50, "carry", rows, None)
        told = self.undo(number, 60, "")
        self.assertEqual(self.journal.booking(told)[3], tuple([("have", "EUR", -10 ** 20)] * 300))

    def test_an_account_has_what_it_would_have_without_both(self):
        self.undo(0, 70, "")
        together = {}
        for booking in self.journal.every():
            for path, currency, amount in booking[3]:
                together[path] = together.get(path, 0) + amount
        self.assertEqual(together, {"have:cash": 0, "own": 0})

    def test_the_first_refusal(self):
        old = self.book(40, "", [("own", "EUR", -1), ("have:old", "EUR", 1)])
        undone = self.book(40, "", ROWS)
        undoing = self.undo(undone, 60, "")
        self.gate.shut(1)
        before = self.picture()
        need_order(self, self.undo, (0, 120, ""), (
            ("NoBooking", {0: 99}), ("NoBooking", {0: None}), ("Undone", {0: undone}), ("Undone", {0: undoing}),
            ("BadDay", {1: 39}), ("BadDay", {1: "x"}), ("BadNote", {2: " "}), ("Closed", {1: 55}), ("NotOpen", {0: old})))
        self.assertEqual(self.picture(), before)

    def test_closed_ahead_of_not_open(self):
        late = self.journal.put(40, "", [("have:late", "EUR", 1), ("own", "EUR", -1)], None)
        need_refusal(self, "NotOpen", self.undo, late, 59, "")
        self.gate.shut(1)
        need_refusal(self, "Closed", self.undo, late, 59, "")
        self.assertEqual(self.undo(late, 60, ""), 2)


class Refused(Deeds):
    def test_it_leaves_all_as_it_was(self):
        self.book(50, "a", ROWS)
        before = self.picture()
        for handed in ((-1, "", ROWS), (50, " ", ROWS), (5, "", ROWS), (50, "", []), (50, "", ROWS + ROWS[:1])):
            with self.assertRaises(HouseError):
                self.book(*handed)
        for handed in ((1, 70, ""), (0, 40, ""), (0, 70, " ")):
            with self.assertRaises(HouseError):
                self.undo(*handed)
        self.assertEqual(self.picture(), before)


if __name__ == "__main__":
    unittest.main()
