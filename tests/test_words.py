import unittest

from evenhall.words import is_among, is_name, is_note, is_whole, number_of, number_text
from things import no_texts, no_wholes, short

LETTERS = "abcdefghijklmnopqrstuvwxyz"
SIGNS = "".join(chr(code) for code in range(32, 127) if code != 37)


class Whole(unittest.TestCase):
    def test_whole_numbers(self):
        for number in (0, 1, -1, 7, 10 ** 15, -10 ** 15, 10 ** 5000, -10 ** 5000):
            self.assertIs(is_whole(number), True, short(number))

    def test_true_and_false_are_none(self):
        self.assertIs(is_whole(True), False)
        self.assertIs(is_whole(False), False)

    def test_other_kinds(self):
        for thing in no_wholes():
            self.assertIs(is_whole(thing), False, short(thing))


class Among(unittest.TestCase):
    def test_bounds_belong_to_it(self):
        for number, told in ((2, False), (3, True), (4, True), (5, True), (6, False)):
            self.assertIs(is_among(number, 3, 5), told, number)

    def test_bounds_below_nought(self):
        for number, told in ((-6, False), (-5, True), (-4, True), (-3, True), (-2, False), (4, False)):
            self.assertIs(is_among(number, -5, -3), told, number)

    def test_one_number_and_none(self):
        self.assertIs(is_among(4, 4, 4), True)
        self.assertIs(is_among(4, 5, 3), False)
        self.assertIs(is_among(5, 5, 3), False)

    def test_great_numbers(self):
        self.assertIs(is_among(10 ** 40, 0, 10 ** 40), True)
        self.assertIs(is_among(10 ** 40 + 1, 0, 10 ** 40), False)

    def test_other_kinds(self):
        for thing in no_wholes():
            self.assertIs(is_among(thing, -10, 10), False, short(thing))


class Names(unittest.TestCase):
    def test_lengths(self):
        for length, told in ((0, False), (1, True), (2, True), (11, True), (12, True), (13, False), (26, False)):
            self.assertIs(is_name(LETTERS[:length]), told, length)
            self.assertIs(is_name("z" * length), told, length)

    def test_each_sign_by_itself_and_within(self):
        for sign in SIGNS:
            for word in (sign, sign + "ab", "a" + sign + "b", "ab" + sign):
                self.assertIs(is_name(word), sign in LETTERS, word)

    def test_line_feeds_and_tabs(self):
        for sign in "\n\t":
            for word in (sign, sign + "cash", "ca" + sign + "sh", "cash" + sign, "abcdefghijkl" + sign):
                self.assertIs(is_name(word), False, repr(word))

    def test_other_kinds(self):
        for thing in no_texts():
            self.assertIs(is_name(thing), False, short(thing))


class Notes(unittest.TestCase):
    def test_lengths(self):
        for length, told in ((0, True), (1, True), (39, True), (40, True), (41, False), (80, False)):
            self.assertIs(is_note("n" * length), told, length)

    def test_each_sign(self):
        for sign in SIGNS:
            self.assertIs(is_note(sign), sign != " ", sign)
            self.assertIs(is_note("a" + sign + "b"), True, sign)

    def test_blanks(self):
        for note, told in (("a b", True), ("a  b", True), (" ab", False), ("ab ", False), (" ab ", False),
                           (" ", False), ("  ", False), (" " * 40, False)):
            self.assertIs(is_note(note), told, repr(note))

    def test_a_blank_at_an_end_of_forty_signs(self):
        self.assertIs(is_note("n" * 39 + " "), False)
        self.assertIs(is_note(" " + "n" * 39), False)
        self.assertIs(is_note("n" + " " * 38 + "n"), True)

    def test_line_feeds_and_tabs(self):
        for sign in "\n\t":
            for note in (sign, sign + "rent", "re" + sign + "nt", "rent" + sign, "n" * 39 + sign):
                self.assertIs(is_note(note), False, repr(note))

    def test_other_kinds(self):
        for thing in no_texts():
            self.assertIs(is_note(thing), False, short(thing))


class NumberTexts(unittest.TestCase):
    def test_ordinary_ones(self):
        for number, text in ((0, "0"), (1, "1"), (-1, "-1"), (9, "9"), (10, "10"), (-10, "-10"), (1000, "1000"),
                             (1203, "1203"), (-98765, "-98765"), (10 ** 15, "1" + "0" * 15)):
            self.assertEqual(number_text(number), text)

    def test_as_python_writes_them(self):
        for figures in range(1, 200):
            for number in (10 ** figures, 10 ** figures - 1, 10 ** figures + 7, 123456789 ** figures):
                self.assertEqual(number_text(number), str(number))
                self.assertEqual(number_text(-number), str(-number))

    def test_longer_than_python_writes_them(self):
        self.assertEqual(number_text(10 ** 5000), "1" + "0" * 5000)
        self.assertEqual(number_text(1 - 10 ** 5000), "-" + "9" * 5000)


class NumbersOfTexts(unittest.TestCase):
    def told(self, word, number):
        self.assertEqual(number_of(word), number, word)
        self.assertIs(is_whole(number_of(word)), True)

    def test_ordinary_ones(self):
        for word, number in (("0", 0), ("1", 1), ("-1", -1), ("10", 10), ("-10", -10), ("907", 907), ("-360", -360)):
            self.told(word, number)

    def test_there_and_back(self):
        for number in list(range(-1200, 1200)) + [10 ** k for k in range(30)] + [-10 ** k for k in range(29)]:
            self.told(number_text(number), number)

    def test_thirty_signs_and_more(self):
        self.told("9" * 29, 10 ** 29 - 1)
        self.told("9" * 30, 10 ** 30 - 1)
        self.assertIsNone(number_of("9" * 31))
        self.told("-" + "9" * 29, 1 - 10 ** 29)
        self.assertIsNone(number_of("-" + "9" * 30))
        self.assertIsNone(number_of("1" + "0" * 5000))

    def test_noughts_and_a_minus_ahead(self):
        for word in ("00", "01", "007", "0" * 30, "-0", "-00", "-01", "--1", "-", "--", "-1-", "1-", "1-2", "0-1"):
            self.assertIsNone(number_of(word), word)

    def test_other_signs(self):
        for word in ("", " ", " 1", "1 ", "1 2", "+1", "1.", "1.0", ".1", "1,000", "1_000", "1e3", "0x1", "a", "1a",
                     "a1", "one", "- 1", "-+1", "|"):
            self.assertIsNone(number_of(word), word)

    def test_line_feeds_and_tabs(self):
        for sign in "\n\t":
            for word in (sign, sign + "12", "1" + sign + "2", "12" + sign, "-12" + sign, "-" + sign + "12"):
                self.assertIsNone(number_of(word), repr(word))

    def test_other_kinds(self):
        for thing in no_texts() + [12, ["1"], ("1", "2"), {"1": 1}]:
            self.assertIsNone(number_of(thing), short(thing))


class NothingIsChanged(unittest.TestCase):
    def test_lists_and_dicts_stay_as_they_are(self):
        things = [["a", [1]], {"a": [1]}]
        for thing in things:
            for asked in (is_whole, is_name, is_note, number_of):
                asked(thing)
            is_among(thing, 0, 1)
        self.assertEqual(things, [["a", [1]], {"a": [1]}])


if __name__ == "__main__":
    unittest.main()
