import unittest

from evenhall.deeds import book, undo
from evenhall.journal import Gate, Journal
from evenhall.reports import balances, report
from things import hall, journal_of

LAST = 146096
SIX = "have:a:b:c:d:e"


def deep_chart():
    return hall(("have:a", None, 0), ("have:a:b", None, 0), ("have:a:b:c", None, 0), ("have:a:b:c:d", None, 0),
                (SIX, None, 0), ("have:ab", None, 0))


class Reports(unittest.TestCase):
    def setUp(self):
        self.chart = deep_chart()
        self.journal = journal_of(
            (20, (SIX, "EUR", 100), ("own", "EUR", -100)),
            (10, ("have:a:b", "USD", 30), ("own", "USD", -30)),
            (30, ("have:ab", "EUR", 5), ("have:a", "EUR", -5)),
            (20, ("gain", "EUR", -7), ("have:a:b", "EUR", 7)))

    def told(self, first, last):
        return {path: (own, within) for path, own, within in report(self.chart, self.journal, first, last)}

    def test_one_for_each_account_rising(self):
        told = report(self.chart, self.journal, 0, LAST)
        self.assertEqual([line[0] for line in told], self.chart.accounts())
        self.assertIs(type(told), list)
        self.assertTrue(all(type(line) is tuple and type(line[1]) is list and type(line[2]) is list for line in told))

    def test_own_and_within_six_deep(self):
        told = self.told(0, LAST)
        self.assertEqual(told[SIX], ([("EUR", 100)], [("EUR", 100)]))
        self.assertEqual(told["have:a:b:c:d"], ([], [("EUR", 100)]))
        self.assertEqual(told["have:a:b:c"], ([], [("EUR", 100)]))
        self.assertEqual(told["have:a:b"], ([("EUR", 7), ("USD", 30)], [("EUR", 107), ("USD", 30)]))
        self.assertEqual(told["have:a"], ([("EUR", -5)], [("EUR", 102), ("USD", 30)]))
        self.assertEqual(told["have"], ([], [("EUR", 107), ("USD", 30)]))

    def test_like_letters_are_not_within(self):
        told = self.told(0, LAST)
        self.assertEqual(told["have:ab"], ([("EUR", 5)], [("EUR", 5)]))
        self.assertEqual(told["have:a"][1], [("EUR", 102), ("USD", 30)])

    def test_accounts_without_rows(self):
        told = self.told(0, LAST)
        self.assertEqual((told["owe"], told["cost"]), (([], []), ([], [])))
        self.assertEqual(set(map(repr, self.told(50, LAST).values())), {repr(([], []))})

    def test_sums_that_come_to_nought(self):
        self.journal.put(25, "", [("have:ab", "EUR", -5), ("have:a:b", "USD", -30)], None)
        told = self.told(0, LAST)
        self.assertEqual(told["have:ab"], ([], []))
        self.assertEqual(told["have:a:b"], ([("EUR", 7)], [("EUR", 107)]))
        self.assertEqual(told["have"], ([], [("EUR", 102)]))

    def test_rows_that_come_to_nought_only_within(self):
        journal = journal_of((5, ("have:a", "EUR", 9), ("have:ab", "EUR", -9)))
        told = {line[0]: line[1:] for line in report(self.chart, journal, 0, 9)}
        self.assertEqual((told["have"], told["have:a"]), (([], []), ([("EUR", 9)], [("EUR", 9)])))

    def test_from_the_first_day_to_the_last_one(self):
        for first, last, told in ((20, 20, [("EUR", 107)]), (0, 19, [("USD", 30)]), (10, 10, [("USD", 30)]),
                                  (11, 19, []), (21, 30, []), (21, 29, []), (20, 30, [("EUR", 107)]),
                                  (11, 20, [("EUR", 107)]), (10, 20, [("EUR", 107), ("USD", 30)])):
            self.assertEqual(self.told(first, last)["have"][1], told, (first, last))

    def test_first_behind_last(self):
        for first, last in ((21, 20), (30, 10), (LAST, 0)):
            told = report(self.chart, self.journal, first, last)
            self.assertEqual(told, [(path, [], []) for path in self.chart.accounts()])

    def test_the_tops_come_to_nought(self):
        for first, last in ((0, LAST), (15, 25), (30, 30)):
            together = {}
            for path, own, within in report(self.chart, self.journal, first, last):
                if ":" not in path:
                    for currency, amount in within:
                        together[currency] = together.get(currency, 0) + amount
            self.assertEqual(set(together.values()) - {0}, set())

    def test_a_booking_that_need_not_come_to_nought(self):
        journal = journal_of((5, ("have", "EUR", 10 ** 40)))
        told = {line[0]: line[1:] for line in report(self.chart, journal, 0, 9)}
        self.assertEqual(told["have"], ([("EUR", 10 ** 40)], [("EUR", 10 ** 40)]))

    def test_told_lists_are_the_askers_own(self):
        told = report(self.chart, self.journal, 0, LAST)
        before = repr(told)
        self.journal.put(9, "", [(SIX, "CHF", 1)], None)
        self.chart.add_top("z", "own")
        self.assertEqual(repr(told), before)
        for line in told:
            line[1].append("x")
            line[2].clear()
        told.clear()
        self.assertEqual(self.told(0, LAST)[SIX], ([("CHF", 1), ("EUR", 100)], [("CHF", 1), ("EUR", 100)]))
        self.assertEqual(self.told(0, LAST)["owe"], ([], []))

    def test_lists_of_one_report_are_not_shared(self):
        told = report(self.chart, Journal(), 0, LAST)
        told[0][1].append("x")
        self.assertEqual(told[1][1:], ([], []))
        self.assertEqual(told[0][2], [])


class Balances(unittest.TestCase):
    def setUp(self):
        self.chart = deep_chart()
        self.journal = journal_of(
            (20, (SIX, "EUR", 100), ("own", "EUR", -100)),
            (10, ("have:ab", "USD", 30), ("own", "USD", -30)),
            (30, ("have:ab", "USD", -30), ("own", "USD", 30)))

    def told(self, day):
        return balances(self.chart, self.journal, day)

    def test_ahead_of_on_and_behind_a_day(self):
        first = [("have:ab", "USD", 30), ("own", "USD", -30)]
        both = [(SIX, "EUR", 100), ("have:ab", "USD", 30), ("own", "EUR", -100), ("own", "USD", -30)]
        for day, told in ((0, []), (9, []), (10, first), (19, first), (20, both), (29, both),
                          (30, [(SIX, "EUR", 100), ("own", "EUR", -100)]), (LAST, [(SIX, "EUR", 100), ("own", "EUR", -100)])):
            self.assertEqual(self.told(day), told, day)

    def test_of_nothing(self):
        self.assertEqual(balances(self.chart, Journal(), LAST), [])

    def test_an_undone_booking_leaves_nothing_from_that_day_on(self):
        journal = Journal()
        gate = Gate()
        book(self.chart, gate, journal, 5, "", [("have", "EUR", 3), ("own", "EUR", -3)])
        undo(self.chart, gate, journal, 0, 8, "")
        self.assertEqual(balances(self.chart, journal, 7), [("have", "EUR", 3), ("own", "EUR", -3)])
        self.assertEqual(balances(self.chart, journal, 8), [])

    def test_told_lists_are_the_askers_own(self):
        told = self.told(10)
        self.journal.put(5, "", [("have", "CHF", 1)], None)
        self.assertEqual(len(told), 2)
        told.clear()
        self.assertEqual(len(self.told(10)), 3)


if __name__ == "__main__":
    unittest.main()
