import calendar
import datetime
import unittest

from evenhall.days import (day_at, day_of, day_text, first_day, is_day, is_month, last_day, month_of, parts_of,
                           stepped)
from things import need_refusal, no_texts, no_wholes, short

START = datetime.date(2000, 1, 1)
LAST = 146096
LAST_MONTH = 4799


def date_of(day):
    return START + datetime.timedelta(days=day)


def length_of(month):
    return calendar.monthrange(2000 + month // 12, month % 12 + 1)[1]


class Kinds(unittest.TestCase):
    def test_days(self):
        for number, told in ((-1, False), (0, True), (1, True), (146095, True), (146096, True), (146097, False),
                             (-146096, False), (10 ** 5000, False)):
            self.assertIs(is_day(number), told, short(number))

    def test_months(self):
        for number, told in ((-1, False), (0, True), (1, True), (4798, True), (4799, True), (4800, False),
                             (-4799, False), (10 ** 5000, False)):
            self.assertIs(is_month(number), told, short(number))

    def test_other_kinds(self):
        for thing in no_wholes() + ["2000-01-01", "2000-01"]:
            self.assertIs(is_day(thing), False, short(thing))
            self.assertIs(is_month(thing), False, short(thing))


class EveryDay(unittest.TestCase):
    def test_all_days_against_the_calendar(self):
        for day in range(LAST + 1):
            date = date_of(day)
            parts = (date.year, date.month, date.day)
            if parts_of(day) != parts or day_at(*parts) != day or day_text(day) != date.isoformat() \
                    or day_of(date.isoformat()) != day or month_of(day) != 12 * (date.year - 2000) + date.month - 1:
                self.fail("day %d, %s" % (day, date))

    def test_all_months_against_the_calendar(self):
        day = 0
        for month in range(LAST_MONTH + 1):
            self.assertEqual(first_day(month), day)
            day = day + length_of(month)
            self.assertEqual(last_day(month), day - 1)
        self.assertEqual(day, LAST + 1)

    def test_kinds_of_what_is_told(self):
        self.assertIs(type(parts_of(0)), tuple)
        for told in (day_at(2000, 1, 1), month_of(5), first_day(1), last_day(1), day_of("2000-01-02"), stepped(9, 1)):
            self.assertIs(type(told), int)


class Edges(unittest.TestCase):
    def test_first_and_last(self):
        self.assertEqual(parts_of(0), (2000, 1, 1))
        self.assertEqual(parts_of(1), (2000, 1, 2))
        self.assertEqual(parts_of(146095), (2399, 12, 30))
        self.assertEqual(parts_of(146096), (2399, 12, 31))
        self.assertEqual((first_day(0), last_day(0)), (0, 30))
        self.assertEqual((first_day(1), last_day(1)), (31, 59))
        self.assertEqual((first_day(4798), last_day(4798)), (146036, 146065))
        self.assertEqual((first_day(4799), last_day(4799)), (146066, 146096))
        self.assertEqual((month_of(0), month_of(30), month_of(31), month_of(146065)), (0, 0, 1, 4798))
        self.assertEqual((month_of(146066), month_of(146096)), (4799, 4799))
        self.assertEqual((day_text(0), day_text(146096)), ("2000-01-01", "2399-12-31"))

    def test_the_second_month(self):
        for year, length in ((2000, 29), (2001, 28), (2002, 28), (2003, 28), (2004, 29), (2023, 28), (2024, 29),
                             (2096, 29), (2100, 28), (2104, 29), (2200, 28), (2300, 28), (2396, 29), (2399, 28)):
            last = day_at(year, 2, length)
            self.assertEqual(day_at(year, 3, 1), last + 1, year)
            self.assertEqual(parts_of(last), (year, 2, length))
            self.assertEqual(last_day(12 * (year - 2000) + 1), last)
            need_refusal(self, "BadDay", day_at, year, 2, length + 1)
            need_refusal(self, "BadDay", day_of, "%d-02-%d" % (year, length + 1))

    def test_the_day_of_the_document(self):
        self.assertEqual(day_of("2024-02-29"), (datetime.date(2024, 2, 29) - START).days)
        self.assertEqual(day_text(day_of("2024-02-29")), "2024-02-29")

    def test_somewhat_beyond_nothing_is_refused(self):
        self.assertEqual(parts_of(146097), (2400, 1, 1))
        self.assertEqual(parts_of(146097 + 59), (2400, 2, 29))
        self.assertEqual(parts_of(146097 + 60), (2400, 3, 1))
        self.assertEqual(parts_of(-1), (1999, 12, 31))
        self.assertEqual((month_of(146097), month_of(-1)), (4800, -1))
        self.assertEqual((first_day(4800), last_day(4801), first_day(-1), last_day(-1)), (146097, 146156, -31, -1))
        self.assertEqual((day_text(146097), day_text(-1)), ("2400-01-01", "1999-12-31"))


class NoSuchDay(unittest.TestCase):
    def test_beside_each_end_of_each_month(self):
        for year in (2000, 2023, 2024, 2100, 2399):
            for month in range(1, 13):
                length = calendar.monthrange(year, month)[1]
                self.assertEqual(day_at(year, month, length) - day_at(year, month, 1), length - 1)
                for place in (-1, 0, length + 1, 32, 10 ** 5000):
                    need_refusal(self, "BadDay", day_at, year, month, place)

    def test_years_and_months_beside_theirs(self):
        for year in (-1, 0, 24, 1999, 2400, 4000, 10 ** 5000, -10 ** 5000):
            need_refusal(self, "BadDay", day_at, year, 1, 1)
            need_refusal(self, "BadDay", day_at, year, 2, 29)
            need_refusal(self, "BadDay", day_at, year, 12, 31)
        for month in (-11, -1, 0, 13, 14, 4799, 10 ** 5000):
            need_refusal(self, "BadDay", day_at, 2000, month, 1)
            need_refusal(self, "BadDay", day_at, 2399, month, 1)

    def test_other_kinds(self):
        for thing in no_wholes():
            need_refusal(self, "BadDay", day_at, thing, 1, 1)
            need_refusal(self, "BadDay", day_at, 2000, thing, 1)
            need_refusal(self, "BadDay", day_at, 2000, 1, thing)
            need_refusal(self, "BadDay", day_at, thing, thing, thing)


class NoDaysText(unittest.TestCase):
    def test_days_that_there_are_not(self):
        for text in ("1999-12-31", "2400-01-01", "2400-02-29", "2100-02-29", "2023-02-29", "2024-02-30", "2024-04-31",
                     "2024-00-10", "2024-13-01", "2024-01-00", "2024-01-32", "0000-00-00", "9999-12-31"):
            need_refusal(self, "BadDay", day_of, text)

    def test_other_forms(self):
        for text in ("", "2024", "2024-02", "2024-2-29", "24-02-29", "2024-02-9", "2024-02-029", "02024-02-29",
                     "20240229", "2024.02.29", "2024/02/29", "2024 02 29", "2024-0229", "202402-29", "2024--2-29",
                     "2024-02--9", "-024-02-29", "+2024-02-2", "2024-+2-29", "2024-02-29 ", " 2024-02-29", "2024- 2-29",
                     "2024-02- 9", "202a-02-29", "2024-02-2a", "a024-02-29", "29-02-2024", "2024-02-29-", "-2024-02-29",
                     "2024-02-290", "2024_02_29", "0", "10", "----------", "8824-01-01", "2024-1-001", "20240-1-01"):
            need_refusal(self, "BadDay", day_of, text)

    def test_each_sign_in_each_place(self):
        good = "2024-02-28"
        signs = [chr(code) for code in range(32, 127) if code != 37] + ["\n", "\t"]
        days = {date_of(day).isoformat() for day in range(LAST + 1)}
        for place in range(10):
            for sign in signs:
                text = good[:place] + sign + good[place + 1:]
                if text in days:
                    self.assertEqual(day_text(day_of(text)), text)
                else:
                    need_refusal(self, "BadDay", day_of, text)

    def test_line_feeds_and_tabs(self):
        for sign in "\n\t":
            for text in ("2024-02-29" + sign, sign + "2024-02-29", "2024-02-2" + sign, "2024-" + sign + "02-29", sign):
                need_refusal(self, "BadDay", day_of, text)

    def test_other_kinds(self):
        for thing in no_texts() + [20240229, list("2024-02-29"), tuple("2024-02-29"), b"2024-02-29", (2024, 2, 29)]:
            need_refusal(self, "BadDay", day_of, thing)


class Steps(unittest.TestCase):
    def goes(self, text, months, to):
        self.assertEqual(day_text(stepped(day_of(text), months)), to, (text, months))

    def test_ordinary_ones(self):
        self.goes("2024-05-17", 0, "2024-05-17")
        self.goes("2024-05-17", 1, "2024-06-17")
        self.goes("2024-05-17", -1, "2024-04-17")
        self.goes("2024-05-17", 8, "2025-01-17")
        self.goes("2024-05-17", -5, "2023-12-17")
        self.goes("2024-05-17", 120, "2034-05-17")
        self.goes("2024-05-01", 1, "2024-06-01")

    def test_from_the_end_of_a_month(self):
        self.goes("2024-01-31", 0, "2024-01-31")
        self.goes("2024-01-31", 1, "2024-02-29")
        self.goes("2023-01-31", 1, "2023-02-28")
        self.goes("2023-01-29", 1, "2023-02-28")
        self.goes("2023-01-28", 1, "2023-02-28")
        self.goes("2024-03-31", -1, "2024-02-29")
        self.goes("2024-03-31", 1, "2024-04-30")
        self.goes("2024-04-30", 1, "2024-05-30")
        self.goes("2024-02-29", 12, "2025-02-28")
        self.goes("2024-02-29", 48, "2028-02-29")
        self.goes("2024-02-29", -48, "2020-02-29")
        self.goes("2096-02-29", 48, "2100-02-28")
        self.goes("2024-02-29", -12, "2023-02-28")
        self.goes("2024-02-29", -24 * 12, "2000-02-29")

    def test_to_the_first_and_the_last_month(self):
        self.goes("2000-01-01", 4799, "2399-12-01")
        self.goes("2000-01-31", 4799, "2399-12-31")
        self.goes("2399-12-31", -4799, "2000-01-31")
        self.goes("2000-02-29", -1, "2000-01-29")
        self.goes("2399-11-30", 1, "2399-12-30")

    def test_beyond_them(self):
        for text, months in (("2000-01-01", -1), ("2000-01-31", -1), ("2000-02-29", -2), ("2399-12-01", 1),
                             ("2399-12-31", 1), ("2399-11-30", 2), ("2000-01-01", 4800), ("2399-12-31", -4800),
                             ("2024-02-29", 10 ** 40), ("2024-02-29", -10 ** 40), ("2024-02-29", 10 ** 5000)):
            need_refusal(self, "BadDay", stepped, day_of(text), months)

    def test_many_days_and_steps_against_the_calendar(self):
        for day in list(range(0, LAST + 1, 251)) + [LAST]:
            date = date_of(day)
            month = 12 * (date.year - 2000) + date.month - 1
            for months in (-month - 1, -month, -120, -12, -1, 0, 1, 2, 11, 12, 13, 48, LAST_MONTH - month,
                           LAST_MONTH - month + 1):
                other = month + months
                if 0 <= other <= LAST_MONTH:
                    place = min(date.day, length_of(other))
                    told = datetime.date(2000 + other // 12, other % 12 + 1, place)
                    self.assertEqual(stepped(day, months), (told - START).days)
                else:
                    need_refusal(self, "BadDay", stepped, day, months)


if __name__ == "__main__":
    unittest.main()
