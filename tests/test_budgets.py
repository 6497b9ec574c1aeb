import unittest

from evenhall.budgets import Budgets
from evenhall.errors import HouseError
from evenhall.shares import shared
from things import need_order, need_refusal, no_texts, no_wholes, with_faults

MOST = 10 ** 15
FAR = 10 ** 30
GOOD = ("food", "cost:food", "EUR", 10, 12, 100, [1, 1, 1])


def budgets_of(*budgets):
    made = Budgets()
    for budget in budgets:
        made.put(*budget)
    return made


class Putting(unittest.TestCase):
    def refused(self, name, fault):
        made = Budgets()
        need_refusal(self, name, made.put, *with_faults(GOOD, fault))
        self.assertEqual(made.names(), [])

    def taken(self, fault):
        made = Budgets()
        self.assertIsNone(made.put(*with_faults(GOOD, fault)))
        return made

    def test_what_is_told(self):
        made = self.taken({})
        self.assertEqual(made.names(), ["food"])
        self.assertEqual(made.terms("food"), ("cost:food", "EUR", 10, 12, 100, (1, 1, 1)))
        self.assertIs(type(made.terms("food")), tuple)
        self.assertIs(type(made.terms("food")[5]), tuple)

    def test_names(self):
        for thing in no_texts() + ["", "Food", "a:b", "a b", "abcdefghijklm", "a\n"]:
            self.refused("BadName", {0: thing})

    def test_paths(self):
        for thing in no_texts() + ["", "Cost", "a:", "a b", "a:b:c:d:e:f:g", "a\n"]:
            self.refused("BadPath", {1: thing})
        self.taken({1: "a"})
        self.taken({1: "a:b:c:d:e:f"})

    def test_currencies(self):
        for thing in no_texts() + ["", "eur", "EURO", "any", "EU\n"]:
            self.refused("BadCurrency", {2: thing})

    def test_months(self):
        for thing in no_wholes() + [-1, 4800, 10 ** 5000]:
            self.refused("BadMonth", {3: thing})
            self.refused("BadMonth", {4: thing})
            self.refused("BadMonth", {3: thing, 4: thing})

    def test_last_ahead_of_first(self):
        self.refused("BadMonth", {3: 12, 4: 11})
        self.refused("BadMonth", {3: 4799, 4: 0})

    def test_one_to_sixty_months(self):
        for many in (1, 2, 59, 60):
            for first in (0, 100, 4800 - many):
                self.taken({3: first, 4: first + many - 1, 6: [1] * many})
        for many in (61, 62, 4800):
            self.refused("BadMonth", {3: 0, 4: many - 1, 6: [1] * many})
        self.refused("BadMonth", {3: 100, 4: 160, 6: [1] * 61})

    def test_totals(self):
        for thing in no_wholes() + [MOST + 1, -MOST - 1, 10 ** 5000]:
            self.refused("BadAmount", {5: thing})
        for total in (0, -1, MOST, -MOST):
            self.taken({5: total})

    def test_weights(self):
        for thing in no_wholes() + [5, (1, 1, 1), "111", [], [1, 1], [1] * 4, [0, 0, 0], [1, 1, -1], [1, 1, 10 ** 9 + 1],
                                    [1, 1, True], [1, 1, None], [1, 1, "1"], [1] * 61]:
            self.refused("BadShare", {6: thing})
        self.refused("BadShare", {4: 10, 6: [1, 1]})
        self.refused("BadShare", {4: 10, 6: [0]})
        self.taken({4: 10, 6: [10 ** 9]})
        self.taken({6: [0, 0, 1]})

    def test_twice(self):
        made = budgets_of(GOOD)
        need_refusal(self, "Twice", made.put, *GOOD)
        need_refusal(self, "Twice", made.put, "food", "own", "USD", 5, 5, 1, [1])
        self.assertEqual(made.terms("food"), ("cost:food", "EUR", 10, 12, 100, (1, 1, 1)))

    def test_the_first_refusal(self):
        made = budgets_of(GOOD)
        need_order(self, made.put, with_faults(GOOD, {0: "rent"}), (
            ("BadName", {0: "R"}), ("BadPath", {1: "R"}), ("BadCurrency", {2: "R"}), ("BadMonth", {3: -1}),
            ("BadMonth", {4: 4800}), ("BadMonth", {3: 13}), ("BadMonth", {4: 70}), ("BadAmount", {5: MOST + 1}),
            ("BadShare", {6: [1]}), ("BadShare", {6: None}), ("Twice", {0: "food"})))
        for name, fault in (("BadPath", {1: 5}), ("BadCurrency", {2: 5}), ("BadMonth", {3: 13}), ("BadAmount", {5: "5"}),
                            ("BadShare", {6: [1]}), ("BadShare", {6: (1, 1, 1)})):
            need_refusal(self, name, made.put, *with_faults(GOOD, fault))
        self.assertEqual(made.names(), ["food"])

    def test_weights_that_are_changed_behind_the_call(self):
        weights = [1, 2, 3]
        made = budgets_of(("food", "cost", "EUR", 10, 12, 60, weights))
        self.assertEqual(weights, [1, 2, 3])
        weights[0] = 99
        weights.append(7)
        self.assertEqual(made.terms("food")[5], (1, 2, 3))
        self.assertEqual([made.planned("food", month) for month in (10, 11, 12)], [10, 20, 30])


class Names(unittest.TestCase):
    def test_rising(self):
        made = budgets_of(*[with_faults(GOOD, {0: name}) for name in ("rent", "food", "a", "foo")])
        self.assertEqual(made.names(), ["a", "foo", "food", "rent"])
        self.assertEqual(Budgets().names(), [])

    def test_told_lists_are_the_askers_own(self):
        made = budgets_of(GOOD)
        told = made.names()
        made.put(*with_faults(GOOD, {0: "rent"}))
        self.assertEqual(told, ["food"])
        told.clear()
        self.assertEqual(made.names(), ["food", "rent"])

    def test_dropped_and_put_again(self):
        made = budgets_of(GOOD, with_faults(GOOD, {0: "rent"}))
        self.assertIsNone(made.drop("food"))
        self.assertEqual(made.names(), ["rent"])
        need_refusal(self, "NoBudget", made.terms, "food")
        need_refusal(self, "NoBudget", made.drop, "food")
        made.put("food", "own", "USD", 5, 5, 7, [3])
        self.assertEqual(made.names(), ["food", "rent"])
        self.assertEqual(made.terms("food"), ("own", "USD", 5, 5, 7, (3,)))
        self.assertEqual([made.planned("food", month) for month in (5, 10)], [7, 0])

    def test_no_budget(self):
        made = budgets_of(GOOD)
        for thing in no_texts() + ["", "foo", "foods", "FOOD", "food\n"]:
            for asked in (made.drop, made.terms):
                need_refusal(self, "NoBudget", asked, thing)
            for asked in (made.planned, made.planned_by):
                need_refusal(self, "NoBudget", asked, thing, 10)
        self.assertEqual(made.names(), ["food"])

    def test_two_are_two(self):
        budgets_of(GOOD)
        self.assertEqual(Budgets().names(), [])


class Planned(unittest.TestCase):
    def setUp(self):
        self.made = budgets_of(GOOD, ("debt", "owe", "EUR", 10, 13, -10, [1, 0, 1, 1]))

    def test_for_a_month(self):
        for month, told in ((-FAR, 0), (-1, 0), (0, 0), (9, 0), (10, 34), (11, 33), (12, 33), (13, 0), (4799, 0), (FAR, 0)):
            self.assertEqual(self.made.planned("food", month), told, month)
        self.assertEqual([self.made.planned("debt", month) for month in range(9, 15)], [0, -3, 0, -3, -4, 0])

    def test_for_all_up_to_a_month(self):
        for month, told in ((-FAR, 0), (-1, 0), (0, 0), (8, 0), (9, 0), (10, 34), (11, 67), (12, 100), (13, 100),
                            (4799, 100), (FAR, 100)):
            self.assertEqual(self.made.planned_by("food", month), told, month)
        self.assertEqual([self.made.planned_by("debt", month) for month in range(9, 15)], [0, -3, -3, -6, -10, -10])

    def test_it_is_the_total_shared_out(self):
        weights = [7 * k % 11 for k in range(60)]
        self.made.put("long", "a", "EUR", 4740, 4799, 10 ** 15 - 7, weights)
        self.assertEqual([self.made.planned("long", month) for month in range(4740, 4800)], shared(10 ** 15 - 7, weights))
        self.assertEqual(self.made.planned_by("long", 4799), 10 ** 15 - 7)

    def test_from_month_nought_on(self):
        self.made.put("zero", "a", "EUR", 0, 1, 5, [1, 1])
        self.assertEqual([self.made.planned("zero", month) for month in (-2, -1, 0, 1, 2)], [0, 0, 3, 2, 0])
        self.assertEqual([self.made.planned_by("zero", month) for month in (-2, -1, 0, 1, 2)], [0, 0, 3, 5, 5])

    def test_asking_changes_nothing(self):
        before = self.made.terms("food")
        with self.assertRaises(HouseError):
            self.made.planned("x", 5)
        self.assertEqual(self.made.terms("food"), before)


if __name__ == "__main__":
    unittest.main()
