import unittest

from evenhall.days import day_of, day_text, stepped
from evenhall.standing import Standing
from things import need_order, need_refusal, no_texts, no_wholes, with_faults

LAST = 146096
ROWS = [("have", "EUR", -5), ("cost", "EUR", 5)]
GOOD = ("rent", 100, 1, 12, "the rent", ROWS)


def standing_of(*orders):
    made = Standing()
    for order in orders:
        made.put(*order)
    return made


class Putting(unittest.TestCase):
    def refused(self, name, fault):
        made = Standing()
        need_refusal(self, name, made.put, *with_faults(GOOD, fault))
        self.assertEqual(made.names(), [])

    def taken(self, fault):
        made = Standing()
        self.assertIsNone(made.put(*with_faults(GOOD, fault)))
        return made

    def test_what_is_told(self):
        made = self.taken({})
        self.assertEqual(made.names(), ["rent"])
        self.assertEqual(made.terms("rent"), (100, 1, 12, "the rent", tuple(ROWS)))
        self.assertTrue(type(made.terms("rent")) is tuple and type(made.terms("rent")[4]) is tuple)
        self.assertEqual(made.done("rent"), 0)

    def test_names(self):
        for thing in no_texts() + ["", "Rent", "a:b", "abcdefghijklm", "a\n"]:
            self.refused("BadName", {0: thing})

    def test_days(self):
        for thing in no_wholes() + [-1, LAST + 1, 10 ** 5000]:
            self.refused("BadDay", {1: thing})
        self.taken({1: 0})
        self.taken({1: LAST})

    def test_counts(self):
        for thing in no_wholes() + [0, -1, 10 ** 5000]:
            self.refused("BadCount", {2: thing})
            self.refused("BadCount", {3: thing})
        self.refused("BadCount", {2: 121})
        self.refused("BadCount", {3: 1001})
        for every, times in ((1, 1), (120, 1), (1, 1000), (120, 1000)):
            self.taken({2: every, 3: times})

    def test_notes(self):
        for thing in no_texts() + [" a", "a ", "n" * 41, "a\n", "a\tb"]:
            self.refused("BadNote", {4: thing})
        self.taken({4: ""})
        self.taken({4: "a | b"})

    def test_rows(self):
        for thing in (None, 5, (), tuple(ROWS), [], ROWS[:1], ROWS * 101, ROWS + [5], ROWS + [("a", "EUR", 0)],
                      ROWS + [["a", "EUR", 1]], ROWS + [("a", "eur", 1)], ROWS + [("a", "EUR", True)]):
            self.refused("BadRow", {5: thing})

    def test_rows_are_asked_for_their_form_alone(self):
        self.taken({5: [("nowhere", "EUR", 1), ("no path!", "USD", 1)]})

    def test_twice(self):
        made = standing_of(GOOD)
        need_refusal(self, "Twice", made.put, *GOOD)
        need_refusal(self, "Twice", made.put, "rent", 5, 2, 3, "", [ROWS[0], ROWS[0]])
        self.assertEqual(made.terms("rent")[0], 100)

    def test_the_first_refusal(self):
        made = standing_of(GOOD)
        need_order(self, made.put, with_faults(GOOD, {0: "other"}), (
            ("BadName", {0: "R"}), ("BadDay", {1: -1}), ("BadCount", {2: 0}), ("BadCount", {3: 1001}), ("BadNote", {4: " "}),
            ("BadRow", {5: []}), ("BadRow", {5: tuple(ROWS)}), ("Twice", {0: "rent"})))
        for name, fault in (("BadDay", {1: None}), ("BadCount", {2: 121}), ("BadCount", {3: 0}), ("BadNote", {4: 5}),
                            ("BadRow", {5: ROWS[:1]})):
            need_refusal(self, name, made.put, *with_faults(GOOD, fault))
        self.assertEqual(made.names(), ["rent"])

    def test_rows_that_are_changed_behind_the_call(self):
        rows = list(ROWS)
        made = standing_of(with_faults(GOOD, {5: rows}))
        rows.clear()
        self.assertEqual(made.terms("rent")[4], tuple(ROWS))


class Names(unittest.TestCase):
    def test_rising_and_new(self):
        made = standing_of(*[with_faults(GOOD, {0: name}) for name in ("rent", "food", "a", "foo")])
        told = made.names()
        self.assertEqual(told, ["a", "foo", "food", "rent"])
        told.clear()
        self.assertEqual(len(made.names()), 4)
        self.assertEqual(Standing().names(), [])

    def test_dropped_and_put_again(self):
        made = standing_of(GOOD)
        made.step("rent")
        self.assertIsNone(made.drop("rent"))
        self.assertEqual(made.names(), [])
        need_refusal(self, "NoOrder", made.drop, "rent")
        made.put("rent", 50, 2, 3, "", ROWS)
        self.assertEqual(made.terms("rent"), (50, 2, 3, "", tuple(ROWS)))
        self.assertEqual((made.done("rent"), made.days("rent", 50)), (0, [50]))

    def test_no_order(self):
        made = standing_of(GOOD)
        for thing in no_texts() + ["", "ren", "rents", "RENT", "rent\n"]:
            for asked in (made.drop, made.terms, made.done, made.step):
                need_refusal(self, "NoOrder", asked, thing)
            need_refusal(self, "NoOrder", made.days, thing, 100)
        self.assertEqual(made.done("rent"), 0)


class Days(unittest.TestCase):
    def days(self, first, every, times, until=LAST):
        made = Standing()
        made.put("x", day_of(first), every, times, "", ROWS)
        return [day_text(day) for day in made.days("x", until)]

    def test_ordinary_ones(self):
        self.assertEqual(self.days("2024-01-15", 1, 3), ["2024-01-15", "2024-02-15", "2024-03-15"])
        self.assertEqual(self.days("2024-01-15", 3, 3), ["2024-01-15", "2024-04-15", "2024-07-15"])
        self.assertEqual(self.days("2024-01-15", 12, 2), ["2024-01-15", "2025-01-15"])
        self.assertEqual(self.days("2024-01-15", 7, 1), ["2024-01-15"])

    def test_from_the_end_of_a_month(self):
        self.assertEqual(self.days("2024-01-31", 1, 5), ["2024-01-31", "2024-02-29", "2024-03-31", "2024-04-30", "2024-05-31"])
        self.assertEqual(self.days("2023-11-30", 3, 3), ["2023-11-30", "2024-02-29", "2024-05-30"])
        self.assertEqual(self.days("2024-02-29", 12, 5), ["2024-02-29", "2025-02-28", "2026-02-28", "2027-02-28", "2028-02-29"])

    def test_the_greatest_counts(self):
        self.assertEqual(self.days("2000-01-31", 120, 1000), ["%d-01-31" % year for year in range(2000, 2400, 10)])
        days = self.days("2000-01-31", 1, 1000)
        self.assertEqual((len(days), days[-1]), (1000, "2083-04-30"))

    def test_beyond_the_last_year(self):
        self.assertEqual(self.days("2399-10-31", 1, 1000), ["2399-10-31", "2399-11-30", "2399-12-31"])
        self.assertEqual(self.days("2399-12-31", 1, 5), ["2399-12-31"])
        self.assertEqual(self.days("2399-11-05", 2, 5), ["2399-11-05"])

    def test_up_to_a_day(self):
        made = standing_of(("x", 31, 1, 3, "", ROWS))
        for until, told in ((0, []), (30, []), (31, [31]), (59, [31]), (60, [31, 60]), (90, [31, 60]), (91, [31, 60, 91]),
                            (LAST, [31, 60, 91])):
            self.assertEqual(made.days("x", until), told, until)

    def test_told_lists_are_the_askers_own(self):
        made = standing_of(("x", 31, 1, 3, "", ROWS))
        told = made.days("x", LAST)
        made.step("x")
        self.assertEqual(told, [31, 60, 91])
        told.clear()
        self.assertEqual(made.days("x", LAST), [60, 91])


class Stepping(unittest.TestCase):
    def test_one_by_one(self):
        made = standing_of(("x", 31, 1, 3, "", ROWS), ("y", 31, 1, 3, "", ROWS))
        for done, left in ((0, [31, 60, 91]), (1, [60, 91]), (2, [91]), (3, [])):
            self.assertEqual((made.done("x"), made.days("x", LAST)), (done, left))
            self.assertIsNone(made.step("x"))
        self.assertEqual((made.done("x"), made.days("x", LAST)), (3, []))
        self.assertIsNone(made.step("x"))
        self.assertEqual(made.done("x"), 3)
        self.assertEqual((made.done("y"), made.days("y", 60)), (0, [31, 60]))

    def test_days_that_are_gone_through_stay_so_whatever_is_asked(self):
        made = standing_of(("x", 31, 1, 3, "", ROWS))
        made.step("x")
        self.assertEqual(made.days("x", 31), [])
        self.assertEqual(made.days("x", 60), [60])

    def test_where_all_were_beyond_the_last_year(self):
        made = standing_of(("x", day_of("2399-11-30"), 1, 1000, "", ROWS))
        for step in range(5):
            made.step("x")
        self.assertEqual((made.done("x"), made.days("x", LAST)), (2, []))

    def test_terms_stay(self):
        made = standing_of(GOOD)
        made.step("rent")
        self.assertEqual(made.terms("rent"), (100, 1, 12, "the rent", tuple(ROWS)))
        self.assertEqual(made.days("rent", LAST)[0], stepped(100, 1))


if __name__ == "__main__":
    unittest.main()
