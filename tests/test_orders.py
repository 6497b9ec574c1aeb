import unittest

from evenhall.days import day_of, day_text
from evenhall.orders import line_of, order_of
from things import need_refusal, no_texts

D = day_of("2024-02-29")
E = day_of("2399-12-31")
ROWS = (("have:cash", "EUR", 1205), ("gain", "EUR", -1205))

# Each order as a line and as a tuple.
ORDERS = (
    ("top have have", ("top", "have", "have")),
    ("top ! ~", ("top", "!", "~")),
    ("top NAME any", ("top", "NAME", "any")),
    ("add have:cash EUR 2024-02-29", ("add", "have:cash", "EUR", D)),
    ("add have:cash any 2000-01-01", ("add", "have:cash", None, 0)),
    ("add any eur 2399-12-31", ("add", "any", "eur", E)),
    ("add - - 2000-01-01", ("add", "-", "-", 0)),
    ("shut have:cash 2024-02-29", ("shut", "have:cash", D)),
    ("shut any 2024-02-29", ("shut", "any", D)),
    ("quote 2024-02-29 EUR 100 USD 108", ("quote", D, "EUR", 100, "USD", 108)),
    ("quote 2024-02-29 any -1 - 0", ("quote", D, "any", -1, "-", 0)),
    ("book 2024-02-29 have:cash EUR 1205 gain EUR -1205 | first sale", ("book", D, ROWS, "first sale")),
    ("book 2024-02-29 have:cash EUR 1205 gain EUR -1205 |", ("book", D, ROWS, "")),
    ("book 2024-02-29 have:cash EUR 1205 | x", ("book", D, ROWS[:1], "x")),
    ("book 2024-02-29 any any 0 | |", ("book", D, (("any", "any", 0),), "|")),
    ("book 2024-02-29 have:cash EUR 1205 gain EUR -1205 | a | b  c |", ("book", D, ROWS, "a | b  c |")),
    ("book 2024-02-29 a b 1 c d 2 e f 3 | ||", ("book", D, (("a", "b", 1), ("c", "d", 2), ("e", "f", 3)), "||")),
    ("undo 0 2024-02-29 |", ("undo", 0, D, "")),
    ("undo 12 2024-02-29 | no | sale", ("undo", 12, D, "no | sale")),
    ("undo -7 2024-02-29 | " + "n" * 40, ("undo", -7, D, "n" * 40)),
    ("close 2024-02 -", ("close", 289, None)),
    ("close 2024-12 own:kept", ("close", 299, "own:kept")),
    ("close 2000-01 any", ("close", 0, "any")),
    ("close 2399-12 --", ("close", 4799, "--")),
    ("budget food cost:food EUR 2024-01 2024-03 -300 1,2,3", ("budget", "food", "cost:food", "EUR", 288, 290, -300, (1, 2, 3))),
    ("budget a b c 2024-03 2000-01 0 5", ("budget", "a", "b", "c", 290, 0, 0, (5,))),
    ("budget any - any 2024-03 2000-01 0 -1,0,0", ("budget", "any", "-", "any", 290, 0, 0, (-1, 0, 0))),
    ("standing rent 2024-02-29 1 12 have:cash EUR 1205 gain EUR -1205 | the rent",
     ("standing", "rent", D, 1, 12, ROWS, "the rent")),
    ("standing rent 2024-02-29 0 -12 a b 5 |", ("standing", "rent", D, 0, -12, (("a", "b", 5),), "")),
    ("drop budget food", ("drop", "budget", "food")),
    ("drop standing budget", ("drop", "standing", "budget")),
    ("run 2024-02-29", ("run", D)),
    ("accounts", ("accounts",)),
    ("report 2024-02-29 2000-01-01", ("report", D, 0)),
    ("balances 2024-02-29", ("balances", D)),
    ("statement have EUR 2000-01-01 2024-02-29", ("statement", "have", "EUR", 0, D)),
    ("statement any - 2000-01-01 2024-02-29", ("statement", "any", "-", 0, D)),
    ("months have EUR 2000-01 2024-02", ("months", "have", "EUR", 0, 289)),
    ("worth EUR 2024-02-29", ("worth", "EUR", D)),
    ("left food 2024-02", ("left", "food", 289)),
    ("over 2024-02", ("over", 289)),
    ("seals", ("seals",)),
)


class ThereAndBack(unittest.TestCase):
    def test_each_order(self):
        for line, order in ORDERS:
            self.assertEqual(order_of(line), order)
            self.assertEqual(line_of(order), line)

    def test_kinds(self):
        for line, order in ORDERS:
            self.assertIs(type(order_of(line)), tuple)
            self.assertEqual([type(part) for part in order_of(line)], [type(part) for part in order])
        self.assertTrue(all(type(row) is tuple for row in order_of(ORDERS[11][0])[2]))

    def test_each_word_of_the_document_is_among_them(self):
        self.assertEqual({order[0] for line, order in ORDERS}, set("""top add shut quote book undo close budget standing drop
            run accounts report balances statement months worth left over seals""".split()))

    def test_numbers_of_thirty_signs(self):
        for text in ("9" * 30, "-" + "9" * 29):
            line = "quote 2024-02-29 EUR " + text + " USD 1"
            self.assertEqual(order_of(line), ("quote", D, "EUR", int(text), "USD", 1))
            self.assertEqual(line_of(order_of(line)), line)
            line = "budget a b c 2024-01 2024-01 " + text + " 1," + text
            self.assertEqual(order_of(line)[6:], (int(text), (1, int(text))))
            line = "book 2024-02-29 a b " + text + " |"
            self.assertEqual(order_of(line)[2], (("a", "b", int(text)),))
        for text in ("9" * 31, "-" + "9" * 30, "1" + "0" * 5000):
            for line in ("quote 2024-02-29 EUR " + text + " USD 1", "quote 2024-02-29 EUR 1 USD " + text,
                         "undo " + text + " 2024-02-29 |", "book 2024-02-29 a b " + text + " |",
                         "budget a b c 2024-01 2024-01 " + text + " 1", "budget a b c 2024-01 2024-01 1 1," + text,
                         "standing a 2024-02-29 " + text + " 1 a b 1 |", "standing a 2024-02-29 1 " + text + " a b 1 |"):
                need_refusal(self, "BadOrder", order_of, line)

    def test_many_rows_and_weights(self):
        rows = tuple(("a", "EUR", number) for number in range(-150, 150))
        line = line_of(("book", D, rows, ""))
        self.assertEqual(order_of(line), ("book", D, rows, ""))
        weights = tuple(range(100))
        line = line_of(("budget", "a", "b", "c", 0, 1, 5, weights))
        self.assertEqual(order_of(line)[7], weights)

    def test_each_sign_of_words(self):
        for code in range(32, 127):
            sign = chr(code)
            if sign == "%":
                continue
            for word in (sign, "a" + sign, sign + "b", "a" + sign + "b"):
                line = "top " + word + " have"
                if sign in " |":
                    need_refusal(self, "BadOrder", order_of, line)
                else:
                    self.assertEqual(order_of(line), ("top", word, "have"))
                    self.assertEqual(order_of("book 2024-02-29 " + word + " EUR 1 |")[2], ((word, "EUR", 1),))
                    self.assertEqual(order_of("book 2024-02-29 a " + word + " 1 |")[2], (("a", word, 1),))


class NoOrders(unittest.TestCase):
    def refused(self, *lines):
        for line in lines:
            need_refusal(self, "BadOrder", order_of, line)

    def test_what_is_no_text(self):
        for thing in no_texts() + [["accounts"], ("accounts",), b"accounts"]:
            self.refused(thing)

    def test_words_that_are_none(self):
        self.refused("", " ", "account", "Accounts", "ACCOUNTS", "tops a have", "order", "drop", "|", "-", "any", "done",
                     "budgets", "rows", "note", "word", "quit")

    def test_a_blank_too_many_ahead_behind_or_between(self):
        for line, order in ORDERS:
            self.refused(" " + line, line + "  ", "  " + line)
            head = line.partition(" |")[0]
            for at, sign in enumerate(head):
                if sign == " ":
                    self.refused(line[:at] + " " + line[at:])

    def test_a_blank_behind(self):
        for line, order in ORDERS:
            self.refused(line + " ")

    def test_a_blank_too_few(self):
        for line, order in ORDERS:
            at = line.find(" ")
            if at >= 0:
                self.refused(line[:at] + line[at + 1:])

    def test_a_part_too_many_or_too_few(self):
        for line, order in ORDERS:
            head, bar, note = line.partition(" |")
            words = head.split(" ")
            self.refused(" ".join(words + ["x"]) + bar + note, " ".join(words + ["1"]) + bar + note)
            if len(words) > 1:
                self.refused(" ".join(words[:-1]) + bar + note, " ".join(words[:1] + words[2:]) + bar + note)

    def test_a_word_of_no_sign(self):
        for line, order in ORDERS:
            head, bar, note = line.partition(" |")
            words = head.split(" ")
            for at in range(len(words)):
                self.refused(" ".join(words[:at] + [""] + words[at + 1:]) + bar + note)

    def test_line_feeds_and_tabs(self):
        for line, order in ORDERS:
            for sign in "\n\t":
                self.refused(line + sign, sign + line, line.replace(" ", sign, 1) if " " in line else line + sign * 2,
                             line[:-1] + sign + line[-1:], line[:3] + sign + line[3:])

    def test_days_that_are_written_otherwise(self):
        for day in ("2024-2-29", "2023-02-29", "2024-02", "2400-01-01", "1999-12-31", "20240229", "8825", "0", "-", "any",
                    "2024-02-29-", "2024/02/29", "2024-02-30"):
            self.refused("run " + day, "balances " + day, "shut a " + day, "add a EUR " + day, "worth EUR " + day,
                         "report " + day + " 2024-02-29", "report 2024-02-29 " + day, "undo 1 " + day + " |",
                         "quote " + day + " EUR 1 USD 1", "book " + day + " a b 1 |", "standing a " + day + " 1 1 a b 1 |",
                         "statement a b " + day + " 2024-02-29", "statement a b 2024-02-29 " + day)

    def test_months_that_are_written_otherwise(self):
        for month in ("2024-2", "2024-00", "2024-13", "2400-01", "1999-12", "2024-02-29", "2024-02-01", "202402", "2024",
                      "24-02", "289", "0", "-", "any", "2024-02-", "-2024-02", "2024/02", "2024-002"):
            self.refused("over " + month, "left a " + month, "close " + month + " -", "close " + month + " a",
                         "months a b " + month + " 2024-02", "months a b 2024-02 " + month,
                         "budget a b c " + month + " 2024-02 1 1", "budget a b c 2024-02 " + month + " 1 1")

    def test_numbers_that_are_written_otherwise(self):
        for number in ("01", "-0", "+1", "1.0", "1,0", "one", "--1", "1-", "-", "any", "1e3", "0x1", "1_0"):
            self.refused("quote 2024-02-29 EUR " + number + " USD 1", "quote 2024-02-29 EUR 1 USD " + number,
                         "undo " + number + " 2024-02-29 |", "book 2024-02-29 a b " + number + " |",
                         "book 2024-02-29 a b 1 a b " + number + " |", "budget a b c 2024-02 2024-02 " + number + " 1",
                         "standing a 2024-02-29 " + number + " 1 a b 1 |", "standing a 2024-02-29 1 " + number + " a b 1 |",
                         "standing a 2024-02-29 1 1 a b " + number + " |")

    def test_weights(self):
        for weights in (",", "1,", ",1", "1,,2", "1;2", "1,2,", "01", "1,-0", "1,x", "-", "1.5", "1,2|"):
            self.refused("budget a b c 2024-02 2024-02 1 " + weights)
        self.refused("budget a b c 2024-02 2024-02 1 1 2", "budget a b c 2024-02 2024-02 1 1, 2")

    def test_rows(self):
        for rows in ("", "a", "a EUR", "a EUR 1 b", "a EUR 1 b EUR", "a EUR x", "1 a EUR", "a EUR 1 b 1 EUR", "a 1 EUR"):
            line = "book 2024-02-29 " + rows + " |" if rows else "book 2024-02-29 |"
            self.refused(line, line + " note")
            line = "standing a 2024-02-29 1 1 " + rows + " |" if rows else "standing a 2024-02-29 1 1 |"
            self.refused(line, line + " note")
        self.refused("book 2024-02-29  |", "book |", "book", "standing |", "standing a 2024-02-29 1 |", "book | a EUR 1")

    def test_notes(self):
        for head in ("book 2024-02-29 a EUR 1", "undo 1 2024-02-29", "standing a 2024-02-29 1 1 a EUR 1"):
            self.refused(head, head + " ", head + " note", head + "|", head + "| note", head + " |note", head + " | ",
                         head + " |  note", head + " | note ", head + " || note", head + " | " + "n" * 41, head + "  | note",
                         head + " |\n", head + " | a\nb", head + " | a\tb", head + " | a\n", head + " |\tnote")

    def test_notes_where_none_is_asked_for(self):
        for line, order in ORDERS:
            if "|" not in line:
                self.refused(line + " |", line + " | note", line + "|")

    def test_drop(self):
        self.refused("drop", "drop budget", "drop standing", "drop food", "drop budgets food", "drop plan food",
                     "drop budget food x", "drop Budget food", "drop book food")

    def test_bars_in_words(self):
        self.refused("top a|b have", "top | have", "add a|b EUR 2024-02-29", "close 2024-02 a|b", "close 2024-02 |",
                     "book 2024-02-29 a|b EUR 1 |", "book 2024-02-29 a E|R 1 | x", "worth | 2024-02-29",
                     "drop budget a|b", "left | 2024-02")


class EachDay(unittest.TestCase):
    def test_days_and_months_there_and_back(self):
        for day in range(0, E + 1, 97):
            line = "run " + day_text(day)
            self.assertEqual((order_of(line), line_of(("run", day))), (("run", day), line))
        for month in range(4800):
            line = "over %04d-%02d" % (2000 + month // 12, month % 12 + 1)
            self.assertEqual((order_of(line), line_of(("over", month))), (("over", month), line))


if __name__ == "__main__":
    unittest.main()
