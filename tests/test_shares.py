import fractions
import unittest

from evenhall.shares import rounded, shared
from things import need_refusal, no_wholes, short


class Rounded(unittest.TestCase):
    def test_halves_go_to_the_even_one(self):
        for number, by, told in ((1, 2, 0), (3, 2, 2), (5, 2, 2), (7, 2, 4), (9, 2, 4), (-1, 2, 0), (-3, 2, -2),
                                 (-5, 2, -2), (-7, 2, -4), (5, 10, 0), (15, 10, 2), (25, 10, 2), (-5, 10, 0),
                                 (-15, 10, -2), (-25, 10, -2), (3, 6, 0), (9, 6, 2), (-9, 6, -2)):
            self.assertEqual(rounded(number, by), told, (number, by))

    def test_the_nearest_one(self):
        for number, by, told in ((0, 1, 0), (0, 7, 0), (1, 3, 0), (2, 3, 1), (4, 3, 1), (-1, 3, 0), (-2, 3, -1),
                                 (-4, 3, -1), (-5, 3, -2), (49, 100, 0), (51, 100, 1), (149, 100, 1), (151, 100, 2),
                                 (-49, 100, 0), (-51, 100, -1), (-149, 100, -1), (-151, 100, -2)):
            self.assertEqual(rounded(number, by), told, (number, by))

    def test_by_one_nothing_changes(self):
        for number in (-10 ** 40, -7, -1, 0, 1, 7, 10 ** 40):
            self.assertEqual(rounded(number, 1), number)

    def test_against_fractions(self):
        for by in range(1, 25):
            for number in range(-80, 81):
                self.assertEqual(rounded(number, by), round(fractions.Fraction(number, by)), (number, by))

    def test_great_numbers(self):
        self.assertEqual(rounded(10 ** 40 + 5, 10), 10 ** 39)
        self.assertEqual(rounded(10 ** 40 + 15, 10), 10 ** 39 + 2)
        self.assertEqual(rounded(-10 ** 40 - 16, 10), -10 ** 39 - 2)


class Shared(unittest.TestCase):
    def goes(self, amount, weights, told):
        self.assertEqual(shared(amount, weights), told, (amount, weights))

    def test_ordinary_ones(self):
        self.goes(100, [1, 1], [50, 50])
        self.goes(100, [1, 3], [25, 75])
        self.goes(100, [1, 2, 1], [25, 50, 25])
        self.goes(0, [1, 2, 3], [0, 0, 0])
        self.goes(7, [10 ** 9], [7])

    def test_like_rests_go_to_the_first(self):
        self.goes(100, [1, 1, 1], [34, 33, 33])
        self.goes(101, [1, 1, 1], [34, 34, 33])
        self.goes(1, [1, 1, 1, 1], [1, 0, 0, 0])
        self.goes(3, [1, 1, 1, 1], [1, 1, 1, 0])
        self.goes(2, [5, 5, 5], [1, 1, 0])

    def test_the_greatest_rests_come_first(self):
        self.goes(10, [1, 2, 4], [1, 3, 6])
        self.goes(1, [1, 2, 4], [0, 0, 1])
        self.goes(2, [1, 2, 4], [0, 1, 1])
        self.goes(5, [4, 1, 4, 1], [2, 1, 2, 0])
        self.goes(1, [3, 4, 4], [0, 1, 0])

    def test_below_nought(self):
        self.goes(-100, [1, 1, 1], [-33, -33, -34])
        self.goes(-1, [1, 1, 1], [0, 0, -1])
        self.goes(-1, [1], [-1])
        self.goes(-10, [1, 2, 4], [-1, -3, -6])
        self.goes(-2, [1, 2, 4], [0, -1, -1])
        self.goes(-5, [1, 1], [-2, -3])

    def test_weights_of_nought_have_nothing(self):
        self.goes(10, [0, 1], [0, 10])
        self.goes(10, [1, 0, 1, 0, 1], [4, 0, 3, 0, 3])
        self.goes(-10, [0, 1, 0, 1, 1], [0, -3, 0, -3, -4])
        self.goes(5, [0] * 59 + [1], [0] * 59 + [5])

    def test_one_and_sixty_weights(self):
        self.goes(12345, [3], [12345])
        self.goes(61, [1] * 60, [2] + [1] * 59)
        self.goes(-61, [1] * 60, [-1] * 59 + [-2])
        self.goes(59, [10 ** 9] * 60, [1] * 59 + [0])

    def test_any_whole_number(self):
        self.goes(10 ** 40 + 1, [1, 1], [5 * 10 ** 39 + 1, 5 * 10 ** 39])
        self.goes(-10 ** 40 - 1, [1, 1], [-5 * 10 ** 39, -5 * 10 ** 39 - 1])

    def test_each_part_is_rounded_down_or_one_more_and_all_make_the_whole(self):
        for weights in ([1, 2, 3, 4, 5], [0, 7, 7, 1, 0, 3], [10 ** 9, 1, 999999999], [2, 2, 2, 2, 3]):
            whole = sum(weights)
            for amount in list(range(-40, 41)) + [10 ** 15, -10 ** 15, 10 ** 15 - 1]:
                parts = shared(amount, weights)
                self.assertEqual(sum(parts), amount)
                more = [part - amount * weight // whole for part, weight in zip(parts, weights)]
                self.assertTrue(set(more) <= {0, 1}, (amount, weights))
                rests = [amount * weight % whole for weight in weights]
                order = sorted(range(len(weights)), key=lambda place: (-rests[place], place))
                self.assertEqual([more[place] for place in order], sorted(more, reverse=True), (amount, weights))

    def test_told_lists_are_new_and_weights_stay(self):
        weights = [1, 2, 3]
        told = shared(7, weights)
        self.assertIs(type(told), list)
        told.append(9)
        told[0] = 77
        self.assertEqual(weights, [1, 2, 3])
        self.assertEqual(shared(7, weights), [1, 2, 4])
        self.assertIsNot(shared(6, weights), weights)


class NoWeights(unittest.TestCase):
    def refused(self, weights):
        for amount in (0, 7, -7):
            need_refusal(self, "BadShare", shared, amount, weights)

    def test_too_few_and_too_many(self):
        self.refused([])
        self.refused([1] * 61)
        self.refused([1] * 1000)

    def test_all_nought(self):
        self.refused([0])
        self.refused([0, 0, 0])
        self.refused([0] * 60)

    def test_their_bounds(self):
        self.assertEqual(shared(3, [0, 10 ** 9]), [0, 3])
        for weight in (-1, 10 ** 9 + 1, 10 ** 5000, -10 ** 9):
            self.refused([weight])
            self.refused([1, weight])
            self.refused([weight, 1])
            self.refused([5, weight, 5])

    def test_no_whole_numbers_among_them(self):
        for thing in no_wholes():
            self.refused([thing])
            self.refused([1, thing])
            self.refused([thing, 1])

    def test_no_lists(self):
        for thing in no_wholes() + [0, 1, 5, (1, 2), "12", {0: 1, 1: 2}, {1, 2}, range(1, 3), short]:
            if thing != [1]:
                self.refused(thing)


if __name__ == "__main__":
    unittest.main()
