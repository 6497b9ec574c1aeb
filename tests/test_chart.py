import random
import unittest

from evenhall.chart import Chart
from evenhall.errors import HouseError
from things import need_order, need_refusal, no_texts, no_wholes

KINDS = ("have", "owe", "own", "gain", "cost")
LAST = 146096


def chart_of(*accounts):
    """A chart with the top "a" (have), and beneath it accounts of all currencies: pairs of a path and its first day."""
    chart = Chart()
    chart.add_top("a", "have")
    for path, day in accounts:
        chart.add(path, None, day)
    return chart


def picture(chart):
    return [(path, chart.kind_of(path), chart.currency_of(path), chart.span_of(path), chart.beneath(path))
            for path in chart.accounts()]


class Tops(unittest.TestCase):
    def test_each_kind(self):
        chart = Chart()
        for kind in KINDS:
            self.assertIsNone(chart.add_top("x" + kind, kind))
            self.assertEqual(chart.kind_of("x" + kind), kind)
            self.assertIsNone(chart.currency_of("x" + kind))
            self.assertEqual(chart.span_of("x" + kind), (0, None))
        self.assertEqual(chart.accounts(), sorted("x" + kind for kind in KINDS))

    def test_names_that_are_none(self):
        for name in ("", "A", "a:b", "a b", "abcdefghijklm", "a\n", "\t", ":"):
            need_refusal(self, "BadName", Chart().add_top, name, "have")
        for thing in no_texts():
            need_refusal(self, "BadName", Chart().add_top, thing, "have")

    def test_kinds_that_are_none(self):
        for kind in ("", "Have", "haves", "hav", "have ", " have", "gain\n", "any", "asset", "own:", "have owe"):
            need_refusal(self, "BadKind", Chart().add_top, "a", kind)
        for thing in no_texts() + [list(KINDS), KINDS]:
            need_refusal(self, "BadKind", Chart().add_top, "a", thing)

    def test_twice(self):
        chart = chart_of()
        for kind in KINDS:
            need_refusal(self, "Twice", chart.add_top, "a", kind)
        self.assertEqual(chart.kind_of("a"), "have")

    def test_twice_of_one_that_was_shut(self):
        chart = chart_of()
        chart.shut("a", 5)
        need_refusal(self, "Twice", chart.add_top, "a", "have")

    def test_the_first_refusal(self):
        chart = chart_of()
        need_order(self, chart.add_top, ("b", "own"), (("BadName", {0: "B"}), ("BadKind", {1: "none"}),
                                                       ("Twice", {0: "a"})))
        need_refusal(self, "BadKind", chart.add_top, "a", "none")
        self.assertEqual(chart.accounts(), ["a"])


class Adding(unittest.TestCase):
    def test_what_it_has(self):
        chart = Chart()
        chart.add_top("a", "gain")
        self.assertIsNone(chart.add("a:b", "EUR", 7))
        self.assertIsNone(chart.add("a:b:c", "USD", 9))
        self.assertIsNone(chart.add("a:b:d", None, 7))
        for path in ("a:b", "a:b:c", "a:b:d"):
            self.assertEqual(chart.kind_of(path), "gain")
        self.assertEqual([chart.currency_of(path) for path in ("a:b", "a:b:c", "a:b:d")], ["EUR", "USD", None])
        self.assertEqual([chart.span_of(path) for path in ("a:b", "a:b:c", "a:b:d")],
                         [(7, None), (9, None), (7, None)])

    def test_kinds_go_with_the_top(self):
        chart = Chart()
        for kind in KINDS:
            chart.add_top(kind, kind)
            chart.add(kind + ":x", None, 0)
            chart.add(kind + ":x:y", "EUR", 0)
            self.assertEqual(chart.kind_of(kind + ":x:y"), kind)

    def test_six_deep_and_no_deeper(self):
        chart = chart_of()
        path = "a"
        for name in "bcdef":
            path = path + ":" + name
            chart.add(path, None, 0)
        self.assertTrue(chart.has("a:b:c:d:e:f"))
        need_refusal(self, "BadPath", chart.add, "a:b:c:d:e:f:g", None, 0)

    def test_no_paths(self):
        chart = chart_of()
        for path in ("a", "b", "", ":", "a:", ":b", "a::b", "a:B", "a:b ", "a:b\n", "a:\tb", "a:abcdefghijklm"):
            need_refusal(self, "BadPath", chart.add, path, None, 0)
        for thing in no_texts():
            need_refusal(self, "BadPath", chart.add, thing, None, 0)

    def test_no_currencies(self):
        chart = chart_of()
        for currency in ("", "eur", "EU", "EURO", "any", "E R", "EU\n", "-"):
            need_refusal(self, "BadCurrency", chart.add, "a:b", currency, 0)
        for thing in no_texts():
            if thing is not None:
                need_refusal(self, "BadCurrency", chart.add, "a:b", thing, 0)
        self.assertFalse(chart.has("a:b"))

    def test_no_days(self):
        chart = chart_of()
        for day in no_wholes() + [-1, LAST + 1, 10 ** 5000]:
            need_refusal(self, "BadDay", chart.add, "a:b", None, day)
        chart.add("a:b", None, LAST)
        self.assertEqual(chart.span_of("a:b"), (LAST, None))

    def test_twice(self):
        chart = chart_of(("a:b", 5))
        need_refusal(self, "Twice", chart.add, "a:b", "EUR", 9)
        need_refusal(self, "Twice", chart.add, "a:b", None, 5)
        self.assertEqual((chart.currency_of("a:b"), chart.span_of("a:b")), (None, (5, None)))

    def test_no_account_right_above(self):
        chart = chart_of(("a:b", 0))
        for path in ("b:c", "a:c:d", "a:b:c:d", "ab:c", "a:bb:c"):
            need_refusal(self, "NoAccount", chart.add, path, None, 0)

    def test_the_one_above_opens_on_a_day(self):
        need_refusal(self, "NotOpen", chart_of(("a:b", 5)).add, "a:b:c", None, 4)
        need_refusal(self, "NotOpen", chart_of(("a:b", 5)).add, "a:b:c", None, 0)
        for day in (5, 6, LAST):
            chart = chart_of(("a:b", 5))
            chart.add("a:b:c", None, day)
            self.assertEqual(chart.span_of("a:b:c"), (day, None))

    def test_the_one_above_was_shut_from_whatever_day_on(self):
        chart = chart_of(("a:b", 5))
        chart.shut("a:b", 10)
        for day in (0, 4, 5, 6, 9, 10, 11, LAST):
            need_refusal(self, "NotOpen", chart.add, "a:b:c", None, day)

    def test_the_first_refusal(self):
        chart = chart_of(("a:b", 5), ("a:old", 5))
        chart.shut("a:old", 10)
        need_order(self, chart.add, ("a:b:c", "EUR", 6), (
            ("BadPath", {0: "a"}), ("BadPath", {0: "a:B"}), ("BadCurrency", {1: "eur"}), ("BadDay", {2: -1}),
            ("Twice", {0: "a:b"}), ("NoAccount", {0: "a:x:c"}), ("NotOpen", {2: 4}), ("NotOpen", {0: "a:old:c"})))
        for path in ("a:b", "a:x:c", "a:old:c"):
            need_refusal(self, "BadCurrency", chart.add, path, "eur", 6)
            need_refusal(self, "BadDay", chart.add, path, "EUR", -1)

    def test_twice_ahead_of_not_open(self):
        chart = chart_of(("a:b", 5), ("a:b:c", 5))
        chart.shut("a:b:c", 7)
        chart.shut("a:b", 8)
        need_refusal(self, "Twice", chart.add, "a:b:c", None, 6)
        need_refusal(self, "NotOpen", chart.add, "a:b:d", None, 6)


class Shutting(unittest.TestCase):
    def test_from_the_day_on_for_ever(self):
        chart = chart_of(("a:b", 5))
        self.assertIsNone(chart.shut("a:b", 9))
        self.assertEqual(chart.span_of("a:b"), (5, 9))
        for day, told in ((0, False), (4, False), (5, True), (8, True), (9, False), (10, False), (LAST, False)):
            self.assertIs(chart.is_open("a:b", day), told, day)

    def test_a_top(self):
        chart = chart_of()
        need_refusal(self, "BadDay", chart.shut, "a", 0)
        chart.shut("a", 1)
        self.assertEqual(chart.span_of("a"), (0, 1))
        self.assertEqual([chart.is_open("a", day) for day in (0, 1)], [True, False])

    def test_ahead_of_on_and_behind_its_first_day(self):
        chart = chart_of(("a:b", 5))
        for day in (0, 4, 5):
            need_refusal(self, "BadDay", chart.shut, "a:b", day)
        chart.shut("a:b", 6)
        self.assertEqual(chart.span_of("a:b"), (5, 6))

    def test_no_days(self):
        chart = chart_of(("a:b", 5))
        for day in no_wholes() + [-1, LAST + 1, 10 ** 5000]:
            need_refusal(self, "BadDay", chart.shut, "a:b", day)
        chart.shut("a:b", LAST)
        self.assertEqual(chart.span_of("a:b"), (5, LAST))

    def test_no_paths_and_no_accounts(self):
        chart = chart_of()
        for path in ("", "A", "a:", "a:b:", "a\n", "a:b:c:d:e:f:g"):
            need_refusal(self, "BadPath", chart.shut, path, 5)
        for thing in no_texts():
            need_refusal(self, "BadPath", chart.shut, thing, 5)
        for path in ("b", "a:b", "aa", "a:b:c:d:e:f"):
            need_refusal(self, "NoAccount", chart.shut, path, 5)

    def test_it_was_shut(self):
        chart = chart_of(("a:b", 5))
        chart.shut("a:b", 9)
        for day in (6, 8, 9, 10):
            need_refusal(self, "NotOpen", chart.shut, "a:b", day)
        self.assertEqual(chart.span_of("a:b"), (5, 9))

    def test_one_beneath_is_open_then_or_later(self):
        chart = chart_of(("a:b", 5), ("a:b:c", 20))
        for day in (6, 19, 20, 21, LAST):
            need_refusal(self, "HasBelow", chart.shut, "a:b", day)
        self.assertEqual(chart.span_of("a:b"), (5, None))

    def test_one_beneath_was_shut(self):
        for day, told in ((6, False), (19, False), (20, False), (29, False), (30, True), (31, True)):
            chart = chart_of(("a:b", 5), ("a:b:c", 20))
            chart.shut("a:b:c", 30)
            if told:
                chart.shut("a:b", day)
                self.assertEqual(chart.span_of("a:b"), (5, day))
            else:
                need_refusal(self, "HasBelow", chart.shut, "a:b", day)

    def test_one_of_several_beneath(self):
        chart = chart_of(("a:b", 0), ("a:b:c", 0), ("a:b:d", 0), ("a:b:e", 0))
        for path in ("a:b:c", "a:b:d", "a:b:e"):
            need_refusal(self, "HasBelow", chart.shut, "a:b", 9)
            chart.shut(path, 9)
        chart.shut("a:b", 9)

    def test_like_letters_are_not_beneath(self):
        chart = chart_of(("a:b", 0), ("a:bc", 0), ("a:bc:d", 0))
        chart.shut("a:b", 3)
        need_refusal(self, "HasBelow", chart.shut, "a:bc", 3)

    def test_the_first_refusal(self):
        chart = chart_of(("a:b", 5), ("a:b:c", 5), ("a:old", 5))
        chart.shut("a:old", 10)
        need_order(self, chart.shut, ("a:b:c", 6), (
            ("BadPath", {0: "a:B"}), ("NoAccount", {0: "a:x"}), ("BadDay", {1: 5}), ("BadDay", {1: True}),
            ("NotOpen", {0: "a:old"}), ("HasBelow", {0: "a:b"})))

    def test_was_shut_ahead_of_has_below(self):
        chart = chart_of(("a:b", 5), ("a:b:c", 5))
        chart.shut("a:b:c", 10)
        chart.shut("a:b", 10)
        need_refusal(self, "NotOpen", chart.shut, "a:b", 7)

    def test_refused_it_changes_nothing(self):
        chart = chart_of(("a:b", 5), ("a:b:c", 5), ("a:old", 5))
        chart.shut("a:old", 10)
        before = picture(chart)
        for handed in (("a:b", 9), ("a:old", 12), ("a:x", 9), ("a:b:c", 5), ("A", 9)):
            with self.assertRaises(HouseError):
                chart.shut(*handed)
        for handed in (("a:b", None, 9), ("a:x:y", None, 9), ("a:old:y", None, 9), ("a:b:d", "x", 9), ("a:b:d", None, 4)):
            with self.assertRaises(HouseError):
                chart.add(*handed)
        self.assertEqual(picture(chart), before)


class Asking(unittest.TestCase):
    def test_has(self):
        chart = chart_of(("a:b", 5))
        for path, told in (("a", True), ("a:b", True), ("b", False), ("a:b:c", False), ("", False), ("a:", False),
                           ("A", False), ("a:b\n", False)):
            self.assertIs(chart.has(path), told, path)
        for thing in no_texts():
            self.assertIs(chart.has(thing), False)

    def test_has_one_that_was_shut(self):
        chart = chart_of()
        chart.shut("a", 3)
        self.assertIs(chart.has("a"), True)
        self.assertEqual(chart.kind_of("a"), "have")

    def test_open_days(self):
        chart = chart_of(("a:b", 5))
        for day, told in ((0, False), (4, False), (5, True), (6, True), (LAST, True)):
            self.assertIs(chart.is_open("a:b", day), told, day)
        self.assertIs(chart.is_open("a", 0), True)

    def test_no_account(self):
        chart = chart_of(("a:b", 5))
        for thing in list(no_texts()) + ["", "b", "a:", "a:b:c", "ab", "A", "a\n"]:
            for asked in (chart.kind_of, chart.currency_of, chart.span_of, chart.beneath):
                need_refusal(self, "NoAccount", asked, thing)
            need_refusal(self, "NoAccount", chart.is_open, thing, 5)

    def test_beneath_are_those_right_beneath_rising(self):
        chart = chart_of(("a:z", 0), ("a:b", 0), ("a:ab", 0), ("a:b:c", 0), ("a:b:a", 0), ("a:b:c:d", 0))
        chart.add_top("ab", "own")
        self.assertEqual(chart.beneath("a"), ["a:ab", "a:b", "a:z"])
        self.assertEqual(chart.beneath("a:b"), ["a:b:a", "a:b:c"])
        self.assertEqual(chart.beneath("a:b:c"), ["a:b:c:d"])
        self.assertEqual(chart.beneath("a:z"), [])
        self.assertEqual(chart.beneath("ab"), [])

    def test_beneath_are_those_that_were_shut_too(self):
        chart = chart_of(("a:b", 0))
        chart.shut("a:b", 4)
        self.assertEqual(chart.beneath("a"), ["a:b"])

    def test_all_accounts_rising(self):
        self.assertEqual(Chart().accounts(), [])
        chart = Chart()
        for name in ("b", "ab", "a"):
            chart.add_top(name, "own")
        for path in ("a:z", "a:b", "b:a", "a:b:c"):
            chart.add(path, None, 0)
        self.assertEqual(chart.accounts(), ["a", "a:b", "a:b:c", "a:z", "ab", "b", "b:a"])

    def test_told_lists_are_the_askers_own(self):
        chart = chart_of(("a:b", 0))
        paths = chart.accounts()
        lower = chart.beneath("a")
        chart.add("a:c", None, 0)
        self.assertEqual((paths, lower), (["a", "a:b"], ["a:b"]))
        paths.clear()
        lower.append("x")
        self.assertEqual(chart.accounts(), ["a", "a:b", "a:c"])
        self.assertEqual(chart.beneath("a"), ["a:b", "a:c"])

    def test_spans_are_tuples(self):
        self.assertIs(type(chart_of().span_of("a")), tuple)

    def test_two_charts_are_two(self):
        one = chart_of(("a:b", 0))
        other = chart_of()
        one.shut("a:b", 5)
        self.assertEqual(other.accounts(), ["a"])
        self.assertEqual(other.beneath("a"), [])


class OpenBeneathOpen(unittest.TestCase):
    def test_on_each_day_whatever_is_done(self):
        chance = random.Random(7)
        for turn in range(60):
            chart = chart_of()
            paths = ["a"]
            for step in range(60):
                path = chance.choice(paths)
                day = chance.randrange(12)
                try:
                    if chance.random() < 0.6:
                        chart.add(path + ":" + chance.choice("bc"), None, day)
                    else:
                        chart.shut(path, day)
                except HouseError:
                    pass
                paths = chart.accounts()
            for path in paths[1:]:
                upper = path.rpartition(":")[0]
                for day in range(14):
                    if chart.is_open(path, day):
                        self.assertTrue(chart.is_open(upper, day), (turn, path, day))


if __name__ == "__main__":
    unittest.main()
