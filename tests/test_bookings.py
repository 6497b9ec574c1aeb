import itertools
import unittest

from evenhall.bookings import need_form, need_rows, sums_of, turned
from evenhall.errors import Uneven
from things import hall, need_refusal, no_texts, no_wholes

MOST = 10 ** 15
GOOD = ("have", "EUR", 5)
BACK = ("own", "EUR", -5)


def no_rows():
    """Things that are no row."""
    things = [None, True, 0, 5, "have EUR 5", "abc", b"abc", {}, {"have": 5}, {1, 2, 3}, object(), [], ["have", "EUR", 5],
              (), ("have",), ("have", "EUR"), ("have", "EUR", 5, 5), (("have", "EUR", 5),), ("EUR", "have", 5),
              (5, "EUR", "have"), ("have", 5, "EUR")]
    things.extend(("have", "EUR", amount) for amount in no_wholes() + [0, MOST + 1, -MOST - 1, 10 ** 5000])
    things.extend(("have", currency, 5) for currency in no_texts() + ["", "eur", "EU", "EURO", "E R", "EU\n", "EU\t"])
    things.extend((path, "EUR", 5) for path in no_texts())
    return things


class Form(unittest.TestCase):
    def test_good_ones(self):
        self.assertIsNone(need_form([GOOD, BACK]))
        self.assertIsNone(need_form([("have", "EUR", MOST), ("own", "USD", -MOST)]))
        self.assertIsNone(need_form([("any text", "EUR", 1), ("", "EUR", 1)]))
        self.assertIsNone(need_form([GOOD, GOOD, GOOD]))

    def test_how_many(self):
        for many in (0, 1, 201, 202, 1000):
            need_refusal(self, "BadRow", need_form, [GOOD] * many)
        for many in (2, 3, 199, 200):
            self.assertIsNone(need_form([GOOD] * many))

    def test_no_lists(self):
        for thing in (None, True, 2, "", "ab", b"ab", (GOOD, BACK), {}, {GOOD: 1, BACK: 2}, {GOOD, BACK}, object(),
                      iter([GOOD, BACK]), GOOD):
            need_refusal(self, "BadRow", need_form, thing)

    def test_things_that_are_no_row(self):
        for thing in no_rows():
            for rows in ([thing, GOOD], [GOOD, thing], [GOOD, BACK, thing], [thing, thing]):
                need_refusal(self, "BadRow", need_form, rows)

    def test_nothing_is_changed(self):
        rows = [GOOD, BACK]
        need_form(rows)
        self.assertEqual(rows, [GOOD, BACK])


class Rows(unittest.TestCase):
    def setUp(self):
        self.chart = hall(("have:eur", "EUR", 10), ("have:all", None, 10), ("have:old", "EUR", 0))
        self.chart.shut("have:old", 20)

    def refused(self, name, rows, day=15):
        need_refusal(self, name, need_rows, self.chart, day, rows)

    def test_good_ones(self):
        for rows in ([GOOD, BACK], [("have:eur", "EUR", 5), BACK], [("have:old", "EUR", 5), BACK],
                     [("have:all", "USD", 5), ("have:all", "USD", -5)], [GOOD, BACK, ("gain", "USD", -1), ("cost", "USD", 1)],
                     [GOOD, GOOD, ("have", "EUR", -10)]):
            before = list(rows)
            self.assertIsNone(need_rows(self.chart, 15, rows))
            self.assertEqual(rows, before)

    def test_the_form(self):
        for rows in ([], [GOOD], [GOOD] * 201, (GOOD, BACK), None, "ab"):
            self.refused("BadRow", rows)
        for thing in no_rows():
            self.refused("BadRow", [GOOD, thing])

    def test_two_hundred_rows(self):
        self.assertIsNone(need_rows(self.chart, 15, [GOOD, BACK] * 100))

    def test_no_account(self):
        for path in ("nowhere", "", "have:", "have:eur:x", "have\n", "HAVE", "have eur"):
            self.refused("NoAccount", [(path, "EUR", 5), BACK])
            self.refused("NoAccount", [BACK, (path, "EUR", 5)])

    def test_not_open(self):
        for day, told in ((0, False), (9, False), (10, True), (11, True)):
            rows = [("have:eur", "EUR", 5), BACK]
            if told:
                self.assertIsNone(need_rows(self.chart, day, rows))
            else:
                self.refused("NotOpen", rows, day)
        self.assertIsNone(need_rows(self.chart, 19, [BACK, ("have:old", "EUR", 5)]))
        for day in (20, 21):
            self.refused("NotOpen", [BACK, ("have:old", "EUR", 5)], day)

    def test_another_currency(self):
        self.refused("BadCurrency", [("have:eur", "USD", 5), ("own", "USD", -5)])
        self.refused("BadCurrency", [("own", "USD", -5), ("have:eur", "USD", 5)])

    def test_row_by_row(self):
        faults = {"NoAccount": ("nowhere", "EUR", 5), "NotOpen": ("have:old", "EUR", 5),
                  "BadCurrency": ("have:eur", "USD", 5)}
        for one, other in itertools.permutations(faults, 2):
            self.refused(one, [faults[one], faults[other]], 25)
            self.refused(one, [GOOD, faults[one], faults[other]], 25)

    def test_of_one_row_not_open_ahead_of_its_currency(self):
        self.refused("NotOpen", [("have:old", "USD", 5), BACK], 25)

    def test_a_row_that_is_none_behind_one_that_is_refused(self):
        for row in (("nowhere", "EUR", 5), ("have:old", "EUR", 5), ("have:eur", "USD", 5)):
            self.refused("BadRow", [row, BACK, ("have", "EUR", 0)], 25)
            self.refused("BadRow", [row], 25)

    def test_uneven_behind_all_others(self):
        for name, row in (("NoAccount", ("nowhere", "EUR", 7)), ("NotOpen", ("have:old", "EUR", 7)),
                          ("BadCurrency", ("have:eur", "USD", 7)), ("BadRow", ("have", "EUR", 0))):
            self.refused(name, [GOOD, BACK, row], 25)
        self.refused("Uneven", [GOOD, GOOD])

    def test_uneven_with_the_first_currency_rising(self):
        for rows, currency in (([GOOD, ("own", "EUR", -4)], "EUR"), ([("have", "USD", 1), ("own", "EUR", 1)], "EUR"),
                               ([("have", "USD", 1), GOOD, BACK, ("own", "CHF", 1)], "CHF"),
                               ([GOOD, BACK, ("own", "USD", 1), ("own", "ZAR", 1)], "USD"),
                               ([GOOD, ("own", "USD", -5)], "EUR"), ([("have", "ZZZ", 1), ("own", "ZZZ", 1)], "ZZZ")):
            for order in itertools.permutations(rows):
                need_refusal(self, "Uneven", need_rows, self.chart, 15, list(order))
                with self.assertRaises(Uneven) as taken:
                    need_rows(self.chart, 15, list(order))
                self.assertEqual(taken.exception.currency, currency)

    def test_sums_beyond_the_bounds_of_amounts(self):
        rows = [("have", "EUR", MOST)] * 3 + [("own", "EUR", -MOST)] * 3
        self.assertIsNone(need_rows(self.chart, 15, rows))


class Turned(unittest.TestCase):
    def test_of_a_list_and_of_a_tuple(self):
        rows = [("have", "EUR", 5), ("own", "USD", -7), ("have", "EUR", 5)]
        told = (("have", "EUR", -5), ("own", "USD", 7), ("have", "EUR", -5))
        self.assertEqual(turned(rows), told)
        self.assertEqual(turned(tuple(rows)), told)
        self.assertEqual(rows, [("have", "EUR", 5), ("own", "USD", -7), ("have", "EUR", 5)])
        self.assertIs(type(turned(rows)), tuple)
        self.assertEqual(turned(turned(rows)), tuple(rows))

    def test_none_and_any_numbers(self):
        self.assertEqual(turned([]), ())
        self.assertEqual(turned([("a", "EUR", 10 ** 40)]), (("a", "EUR", -10 ** 40),))


class SumsOf(unittest.TestCase):
    def test_rising_and_without_noughts(self):
        rows = [("b", "EUR", 5), ("a", "USD", 1), ("a", "EUR", 2), ("b", "EUR", -7), ("a:b", "EUR", 4), ("c", "EUR", 3),
                ("c", "EUR", -3), ("ab", "EUR", 1)]
        told = [("a", "EUR", 2), ("a", "USD", 1), ("a:b", "EUR", 4), ("ab", "EUR", 1), ("b", "EUR", -2)]
        self.assertEqual(sums_of(rows), told)
        self.assertEqual(sums_of(tuple(rows)), told)
        self.assertEqual(sums_of(list(reversed(rows))), told)

    def test_none(self):
        self.assertEqual(sums_of([]), [])
        self.assertEqual(sums_of(()), [])
        self.assertEqual(sums_of([("a", "EUR", 1), ("a", "EUR", -1)]), [])

    def test_beyond_the_bounds_of_amounts(self):
        self.assertEqual(sums_of([("a", "EUR", MOST)] * 3), [("a", "EUR", 3 * MOST)])

    def test_rows_stay_and_lists_are_new(self):
        rows = [("a", "EUR", 1), ("b", "EUR", 1)]
        told = sums_of(rows)
        told.clear()
        self.assertEqual(rows, [("a", "EUR", 1), ("b", "EUR", 1)])
        self.assertEqual(sums_of(rows), rows)
        self.assertIsNot(sums_of(rows), rows)


if __name__ == "__main__":
    unittest.main()
