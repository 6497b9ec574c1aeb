import unittest

from evenhall.days import first_day, last_day
from evenhall.sums import Sums

FAR = 10 ** 30


def booking(month, *rows, day=None):
    return (0, first_day(month) if day is None else day, "", tuple(rows), None)


class SumsByMonths(unittest.TestCase):
    def setUp(self):
        self.sums = Sums()
        self.sums.put(booking(5, ("a", "EUR", 7), ("b", "EUR", -7)))
        self.sums.put(booking(3, ("a", "EUR", 1), ("a", "EUR", 10), ("a:b", "EUR", 100), ("a", "USD", 3)))
        self.sums.put(booking(5, ("a", "EUR", 1000), ("b", "CHF", 2)))
        self.sums.put(booking(8, ("a", "EUR", -20)))

    def test_put_tells_nothing(self):
        self.assertIsNone(Sums().put(booking(0, ("a", "EUR", 1))))

    def test_own(self):
        for first, last, told in ((3, 3, 11), (4, 4, 0), (5, 5, 1007), (8, 8, -20), (3, 5, 1018), (3, 8, 998), (4, 7, 1007),
                                  (0, 2, 0), (9, 20, 0), (0, 4799, 998), (6, 8, -20)):
            self.assertEqual(self.sums.own("a", "EUR", first, last), told, (first, last))
        self.assertEqual(self.sums.own("a", "USD", 3, 3), 3)
        self.assertEqual(self.sums.own("b", "EUR", 0, 9), -7)
        self.assertEqual(self.sums.own("b", "CHF", 0, 9), 2)

    def test_own_is_without_what_lies_beneath(self):
        self.assertEqual(self.sums.own("a:b", "EUR", 0, 9), 100)

    def test_first_behind_last(self):
        for first, last in ((5, 4), (5, 3), (8, 3), (FAR, -FAR)):
            self.assertEqual(self.sums.own("a", "EUR", first, last), 0)

    def test_far_months(self):
        self.assertEqual(self.sums.own("a", "EUR", -FAR, FAR), 998)
        self.assertEqual(self.sums.own("a", "EUR", -FAR, 3), 11)
        self.assertEqual(self.sums.own("a", "EUR", 8, FAR), -20)
        self.assertEqual(self.sums.own("a", "EUR", FAR, FAR + 5), 0)
        self.assertEqual(self.sums.standing("a", "EUR", FAR), 998)
        self.assertEqual(self.sums.standing("a", "EUR", -FAR), 0)

    def test_standing(self):
        for month, told in ((-1, 0), (0, 0), (2, 0), (3, 11), (4, 11), (5, 1018), (7, 1018), (8, 998), (9, 998)):
            self.assertEqual(self.sums.standing("a", "EUR", month), told, month)
        self.assertEqual(self.sums.standing("a:b", "EUR", 9), 100)

    def test_currencies(self):
        self.assertEqual(self.sums.currencies("a"), ["EUR", "USD"])
        self.assertEqual(self.sums.currencies("b"), ["CHF", "EUR"])
        self.assertEqual(self.sums.currencies("a:b"), ["EUR"])

    def test_currencies_that_come_to_nought(self):
        self.sums.put(booking(5, ("c", "EUR", 4), ("c", "EUR", -4)))
        self.sums.put(booking(5, ("d", "EUR", 4)))
        self.sums.put(booking(6, ("d", "EUR", -4)))
        self.assertEqual(self.sums.currencies("c"), ["EUR"])
        self.assertEqual(self.sums.currencies("d"), ["EUR"])
        self.assertEqual(self.sums.own("c", "EUR", 0, 9), 0)
        self.assertEqual(self.sums.standing("d", "EUR", 6), 0)

    def test_what_was_never_put(self):
        for path in ("x", "", "a:x", "ab", "no path"):
            self.assertEqual(self.sums.own(path, "EUR", 0, 9), 0)
            self.assertEqual(self.sums.standing(path, "EUR", 9), 0)
            self.assertEqual(self.sums.currencies(path), [])
        self.assertEqual(self.sums.own("a", "CHF", 0, 9), 0)
        self.assertEqual(self.sums.standing("a", "xyz", 9), 0)

    def test_the_ends_of_a_month(self):
        sums = Sums()
        for day, amount in ((last_day(1), 1), (first_day(2), 10), (last_day(2), 100), (first_day(3), 1000)):
            sums.put(booking(0, ("a", "EUR", amount), day=day))
        self.assertEqual([sums.own("a", "EUR", month, month) for month in (1, 2, 3)], [1, 110, 1000])

    def test_any_amounts(self):
        self.sums.put(booking(5, ("z", "EUR", 10 ** 40), ("z", "EUR", 1)))
        self.assertEqual(self.sums.own("z", "EUR", 5, 5), 10 ** 40 + 1)

    def test_told_lists_are_the_askers_own(self):
        told = self.sums.currencies("a")
        self.sums.put(booking(5, ("a", "CHF", 4)))
        self.assertEqual(told, ["EUR", "USD"])
        told.clear()
        self.assertEqual(self.sums.currencies("a"), ["CHF", "EUR", "USD"])

    def test_two_are_two(self):
        self.assertEqual(Sums().currencies("a"), [])


if __name__ == "__main__":
    unittest.main()
