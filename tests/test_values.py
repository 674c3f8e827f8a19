import unittest

from colonnade.errors import BadValue
from colonnade.values import domain_of, is_name, is_value, near_values, next_value, value_before, written

from tests.helpers import check_raises, check_unchanged

KEY_WORDS = ("from join on where and or not in group tell count distinct least greatest sum order"
             " down first at").split()
NO_VALUES = (True, False, None, 1000000000, -1000000000, "", "A", "abcdefghi", "a1", "a b", "-", "a_")


class ValuesTest(unittest.TestCase):
    def test_names(self):
        for text in ("a", "zzzzzzzz", "price", "always", "never", "plain"):
            self.assertIs(is_name(text), True, text)
        for text in [*KEY_WORDS, "", "abcdefghi", "Price", "a1", "a b", " a", "a-b", "a_b", "7"]:
            self.assertIs(is_name(text), False, text)

    def test_values_of_domains(self):
        for value in (0, 999999999, -999999999):
            self.assertIs(is_value("number", value), True)
            self.assertIs(is_value("word", value), False)
        for value in ["a", "zzzzzzzz", *KEY_WORDS]:
            self.assertIs(is_value("word", value), True)
            self.assertIs(is_value("number", value), False)
        for value in NO_VALUES:
            self.assertIs(is_value("number", value), False)
            self.assertIs(is_value("word", value), False)

    def test_domain_of(self):
        self.assertEqual(domain_of(-999999999), "number")
        self.assertEqual(domain_of("where"), "word")
        for call in (domain_of, next_value, value_before):
            for value in NO_VALUES:
                check_raises(self, BadValue, {"value": value}, call, value)

    def test_neighbours(self):
        ascending = (
            (-999999999, -999999998), (-1, 0), (999999998, 999999999),
            ("a", "aa"), ("az", "aza"), ("abcdefg", "abcdefga"), ("abcdefgh", "abcdefgi"),
            ("abcdefzz", "abcdeg"), ("azzzzzzz", "b"), ("zzzzzzzy", "zzzzzzzz"), ("zzzzzzz", "zzzzzzza"),
            ("yzzzzzzz", "z"), ("aaaaaaaz", "aaaaaab"), ("aaaaaaax", "aaaaaaay"), ("yyyyyyyy", "yyyyyyyz"),
        )
        for one, other in ascending:
            self.assertEqual(next_value(one), other)
            self.assertEqual(value_before(other), one)
        self.assertIsNone(next_value(999999999))
        self.assertIsNone(next_value("zzzzzzzz"))
        self.assertIsNone(value_before(-999999999))
        self.assertIsNone(value_before("a"))

    def test_words_before(self):
        for word, before in (("b", "azzzzzzz"), ("ba", "b"), ("aa", "a"), ("ab", "aazzzzzz"), ("bcd", "bcczzzzz")):
            self.assertEqual(value_before(word), before)
            self.assertEqual(next_value(before), word)

    def test_near_values(self):
        cases = (
            (("number", [], 0), []), (("word", [], 0), []),
            (("number", [], 3), [0, 1, 2]), (("word", [], 3), ["a", "aa", "aaa"]),
            (("number", [5], 0), [5]),
            (("number", [5, 7, 5], 2), [3, 4, 5, 6, 7, 8, 9]),
            (("number", [9, 2], 1), [1, 2, 3, 8, 9, 10]),
            (("number", [999999999, -999999999], 2),
             [-999999999, -999999998, -999999997, 999999997, 999999998, 999999999]),
            (("word", ["a"], 2), ["a", "aa", "aaa"]),
            (("word", ["zzzzzzzz"], 1), ["zzzzzzzy", "zzzzzzzz"]),
            (("word", ["b", "a"], 1), ["a", "aa", "azzzzzzz", "b", "ba"]),
            (("word", ["aa"], 6), ["a", "aa", "aaa", "aaaa", "aaaaa", "aaaaaa", "aaaaaaa", "aaaaaaaa"]),
        )
        for arguments, near in cases:
            self.assertEqual(check_unchanged(self, near_values, *arguments), near, arguments)

    def test_near_values_are_new(self):
        values = [5]
        near_values("number", values, 0).append(6)
        self.assertEqual(values, [5])

    def test_written(self):
        for value, text in ((0, "0"), (-12, "-12"), (999999999, "999999999"), ("rome", "'rome'"), ("in", "'in'")):
            self.assertEqual(written(value), text)


if __name__ == "__main__":
    unittest.main()
