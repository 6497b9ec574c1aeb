import unittest

from evenhall.money import amount_of, amount_text, is_amount, is_currency
from things import need_refusal, no_texts, no_wholes, short

MOST = 10 ** 15
CAPITALS = "ABCDEFGHIJKLMNOPQRSTUVWXYZ"
SIGNS = "".join(chr(code) for code in range(32, 127) if code != 37)


class Currencies(unittest.TestCase):
    def test_lengths(self):
        for length in range(8):
            self.assertIs(is_currency("EURUSDCHF"[:length]), length == 3, length)
            self.assertIs(is_currency("Z" * length), length == 3, length)

    def test_each_sign(self):
        for sign in SIGNS:
            for word in (sign + "BC", "A" + sign + "C", "AB" + sign, sign * 3):
                self.assertIs(is_currency(word), sign in CAPITALS, word)

    def test_line_feeds_and_tabs(self):
        for sign in "\n\t":
            for word in ("EU" + sign, sign + "EU", "E" + sign + "R", "EUR" + sign, sign + "EUR", sign * 3):
                self.assertIs(is_currency(word), False, repr(word))

    def test_other_kinds(self):
        for thing in no_texts() + [b"EUR", list("EUR"), tuple("EUR"), {"E": 1, "U": 2, "R": 3}]:
            self.assertIs(is_currency(thing), False, short(thing))


class Amounts(unittest.TestCase):
    def test_bounds(self):
        for number, told in ((0, True), (1, True), (-1, True), (MOST - 1, True), (MOST, True), (MOST + 1, False),
                             (1 - MOST, True), (-MOST, True), (-MOST - 1, False), (10 ** 5000, False)):
            self.assertIs(is_amount(number), told, short(number))

    def test_other_kinds(self):
        for thing in no_wholes():
            self.assertIs(is_amount(thing), False, short(thing))


class AmountTexts(unittest.TestCase):
    def test_those_of_the_document(self):
        self.assertEqual(amount_text(-1205, 2), "-12.05")
        self.assertEqual(amount_text(7, 2), "0.07")
        self.assertEqual(amount_text(7, 0), "7")

    def test_each_count_of_places(self):
        for amount, texts in ((0, ("0", "0.0", "0.00", "0.000", "0.0000")),
                              (5, ("5", "0.5", "0.05", "0.005", "0.0005")),
                              (-5, ("-5", "-0.5", "-0.05", "-0.005", "-0.0005")),
                              (10, ("10", "1.0", "0.10", "0.010", "0.0010")),
                              (1234, ("1234", "123.4", "12.34", "1.234", "0.1234")),
                              (-1234, ("-1234", "-123.4", "-12.34", "-1.234", "-0.1234")),
                              (120000, ("120000", "12000.0", "1200.00", "120.000", "12.0000"))):
            for places in range(5):
                self.assertEqual(amount_text(amount, places), texts[places])

    def test_any_whole_number(self):
        self.assertEqual(amount_text(MOST + 1, 2), "10000000000000.01")
        self.assertEqual(amount_text(-MOST - 1, 4), "-100000000000.0001")
        self.assertEqual(amount_text(10 ** 5000, 2), "1" + "0" * 4998 + ".00")
        self.assertEqual(amount_text(-10 ** 5000, 0), "-1" + "0" * 5000)


class AmountsOfTexts(unittest.TestCase):
    def told(self, word, places, amount):
        self.assertEqual(amount_of(word, places), amount, word)
        self.assertIs(type(amount_of(word, places)), int)

    def refused(self, word, places):
        need_refusal(self, "BadAmount", amount_of, word, places)

    def test_those_of_the_document(self):
        self.told("-12.05", 2, -1205)
        self.told("0.07", 2, 7)
        self.told("7", 0, 7)

    def test_there_and_back(self):
        amounts = list(range(-300, 301)) + [10 ** k for k in range(16)] + [-10 ** k for k in range(16)]
        for places in range(5):
            for amount in amounts + [123456789012345, -123456789012345, MOST - 1, 1 - MOST]:
                self.told(amount_text(amount, places), places, amount)

    def test_bounds(self):
        for places in range(5):
            for amount in (MOST, MOST - 1, -MOST, 1 - MOST):
                self.told(amount_text(amount, places), places, amount)
            for amount in (MOST + 1, -MOST - 1, 10 ** 16, -10 ** 16, 10 ** 30, 10 ** 5000, -10 ** 5000):
                self.refused(amount_text(amount, places), places)

    def test_other_counts_of_places(self):
        for places in range(5):
            for others in range(5):
                if others != places:
                    for amount in (0, 7, -7, 120, 123456, -123456):
                        self.refused(amount_text(amount, others), places)

    def test_points(self):
        for word in ("12", "1205", "12.", "12.0", "12.050", ".05", ".", "..", "", "12..05", "1.2.05", "12.05.", ".12.05",
                     "1.205", "120.5", "1205.", ".1205", "12,05", "12 05", "1,000.00", "-.05", "-", "-.", "12.0.5"):
            self.refused(word, 2)
        for word in ("", ".", "7.", ".7", "7.0", "0.7", "-", "-.", "7,0", "-7."):
            self.refused(word, 0)
        for word in ("1", "1.", "1.000", "1.00000", ".0001", "0.00001", "10000"):
            self.refused(word, 4)

    def test_noughts_and_minuses(self):
        for word in ("00.07", "012.05", "-012.05", "-0.00", "-00.01", "--0.07", "+0.07", "0.07-", "0-.07", "0.-7",
                     "0.0-7", "- 0.07", "000", "0.00-"):
            self.refused(word, 2)
        for word in ("-0", "00", "07", "-07", "+7", "--7", "7-", "0" * 5000):
            self.refused(word, 0)

    def test_other_signs(self):
        for word in (" 0.07", "0.07 ", "0 .07", "0. 07", "a.07", "0.0a", "0.07EUR", "EUR", "1e2.00", "1_0.00", "0x1.00"):
            self.refused(word, 2)

    def test_line_feeds_and_tabs(self):
        for sign in "\n\t":
            for word in ("0.07" + sign, sign + "0.07", "0" + sign + "07", "0." + sign + "07", "0.0" + sign, sign):
                self.refused(word, 2)
            for word in ("7" + sign, sign + "7", "1" + sign + "7", "-" + sign + "7", sign):
                self.refused(word, 0)

    def test_other_kinds(self):
        for thing in no_texts() + [7, -1205, 12.05, b"0.07", ["0.07"], list("0.07"), ("0.07",), {"0.07": 7}]:
            for places in range(5):
                self.refused(thing, places)


if __name__ == "__main__":
    unittest.main()
