import unittest

from evenhall.paths import above, is_within, names_of, path_of
from things import need_refusal, no_texts

LONG = "abcdefghijkl"

NO_PATHS = ("", ":", "::", "a:", ":a", "a::b", ":a:b", "a:b:", "a:b::c", "a:b:c:d:e:f:g", "a:" * 6 + "a", "A", "a:B",
            "a b", "a :b", "a: b", " a", "a ", "a-b", "a.b", "a/b", "a1", "1", "a;b", "a|b", LONG + "m", "a:" + LONG + "m",
            "a\n", "\na", "a\n:b", "a:b\n", "a\tb", "a:\tb", "\t", "\n", "a:b:c:d:e:f:", ":a:b:c:d:e:f")


class NamesOf(unittest.TestCase):
    def test_of_one_to_six_names(self):
        names = ["a", "bb", "ccc", LONG, "a", "z"]
        for many in range(1, 7):
            self.assertEqual(names_of(":".join(names[:many])), names[:many])

    def test_what_is_no_path(self):
        for text in NO_PATHS:
            need_refusal(self, "BadPath", names_of, text)

    def test_each_sign_by_itself(self):
        for code in range(32, 127):
            sign = chr(code)
            if "a" <= sign <= "z":
                self.assertEqual(names_of("x:" + sign), ["x", sign])
            elif sign != "%":
                need_refusal(self, "BadPath", names_of, "x:" + sign)
                need_refusal(self, "BadPath", names_of, sign)

    def test_other_kinds(self):
        for thing in no_texts() + [["a", "b"], ("a",), b"a:b"]:
            need_refusal(self, "BadPath", names_of, thing)

    def test_each_list_is_a_new_one(self):
        told = names_of("a:b")
        told.append("c")
        self.assertEqual(names_of("a:b"), ["a", "b"])


class PathOf(unittest.TestCase):
    def test_of_one_to_six_names(self):
        names = ["a", "bb", "ccc", LONG, "a", "z"]
        for many in range(1, 7):
            self.assertEqual(path_of(names[:many]), ":".join(names[:many]))
        self.assertEqual(names, ["a", "bb", "ccc", LONG, "a", "z"])

    def test_none_and_seven(self):
        need_refusal(self, "BadPath", path_of, [])
        need_refusal(self, "BadPath", path_of, list("abcdefg"))
        need_refusal(self, "BadPath", path_of, ["a"] * 100)

    def test_names_that_are_none(self):
        for name in ("", "A", "a:b", ":", "a ", " a", "a b", "1", LONG + "m", "a\n", "\t"):
            for names in ([name], ["a", name], [name, "a"], ["a", name, "b"]):
                need_refusal(self, "BadPath", path_of, names)

    def test_lists_that_hold_other_things(self):
        for thing in no_texts():
            for names in ([thing], ["a", thing], [thing, "a"], ["a", "b", "c", "d", "e", thing]):
                need_refusal(self, "BadPath", path_of, names)


    def test_no_lists(self):
        for thing in (None, 5, "a", "", ("a", "b"), {"a": 1}, {"a"}):
            need_refusal(self, "BadPath", path_of, thing)


class Above(unittest.TestCase):
    def test_the_top_comes_first(self):
        self.assertEqual(above("a"), [])
        self.assertEqual(above("a:b"), ["a"])
        self.assertEqual(above("have:bank:giro"), ["have", "have:bank"])
        self.assertEqual(above("a:b:c:d:e:f"), ["a", "a:b", "a:b:c", "a:b:c:d", "a:b:c:d:e"])
        self.assertEqual(above("a:a:a"), ["a", "a:a"])

    def test_each_list_is_a_new_one(self):
        above("a:b").append("x")
        self.assertEqual(above("a:b"), ["a"])


class IsWithin(unittest.TestCase):
    def test_itself_and_all_beneath(self):
        for path, other in (("a", "a"), ("a:b", "a"), ("a:b:c", "a"), ("a:b:c", "a:b"), ("a:b:c", "a:b:c"),
                            ("a:a:a", "a:a"), ("a:b:c:d:e:f", "a"), ("a:b:c:d:e:f", "a:b:c:d:e")):
            self.assertIs(is_within(path, other), True, (path, other))

    def test_others(self):
        for path, other in (("a", "b"), ("a", "a:b"), ("a:b", "a:b:c"), ("a:b", "b"), ("b:a", "a"), ("a:c", "a:b"),
                            ("x:a:b", "a:b"), ("a:b:c", "b:c"), ("a:b:c", "a:c")):
            self.assertIs(is_within(path, other), False, (path, other))

    def test_like_letters_at_the_beginning_are_not_enough(self):
        for path, other in (("ab", "a"), ("a", "ab"), ("a:bc", "a:b"), ("a:b", "a:bc"), ("a:bc:d", "a:b"),
                            ("cashbox:eur", "cash"), ("ab:c", "a")):
            self.assertIs(is_within(path, other), False, (path, other))


if __name__ == "__main__":
    unittest.main()
