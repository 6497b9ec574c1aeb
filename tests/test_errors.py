import unittest

import evenhall.errors as errors
from things import REFUSALS


def made(name):
    return getattr(errors, name)("EUR")


class Classes(unittest.TestCase):
    def test_house_error_stands_straight_under_value_error(self):
        self.assertEqual(errors.HouseError.__bases__, (ValueError,))

    def test_each_refusal_stands_straight_under_house_error(self):
        for name in REFUSALS:
            self.assertEqual(getattr(errors, name).__bases__, (errors.HouseError,), name)

    def test_there_are_no_others(self):
        classes = [name for name in vars(errors) if not name.startswith("__")]
        self.assertEqual(sorted(classes), sorted(REFUSALS + ("HouseError",)))

    def test_each_is_a_class_of_its_own(self):
        self.assertEqual(len({getattr(errors, name) for name in REFUSALS}), 25)
        for name in REFUSALS:
            self.assertEqual(getattr(errors, name).__name__, name)

    def test_none_takes_another_one(self):
        for name in REFUSALS:
            taken_by = [other for other in REFUSALS if isinstance(made(name), getattr(errors, other))]
            self.assertEqual(taken_by, [name])

    def test_house_error_and_value_error_take_each(self):
        for name in REFUSALS:
            for taker in (errors.HouseError, ValueError):
                with self.assertRaises(taker):
                    raise made(name)


class UnevenField(unittest.TestCase):
    def test_currency_is_set_when_it_is_made(self):
        self.assertEqual(errors.Uneven("EUR").currency, "EUR")

    def test_each_object_has_its_own(self):
        one = errors.Uneven("EUR")
        other = errors.Uneven("USD")
        self.assertEqual((one.currency, other.currency), ("EUR", "USD"))

    def test_it_is_there_when_it_is_taken(self):
        with self.assertRaises(errors.Uneven) as taken:
            raise errors.Uneven("CHF")
        self.assertEqual(taken.exception.currency, "CHF")


if __name__ == "__main__":
    unittest.main()
