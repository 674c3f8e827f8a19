import random
import unittest

from colonnade.errors import BadConstant, BadItem, Mismatch, NoColumn, NoTable, TooMany, Twice, Unread
from colonnade.filters import Compare, Every, Opposite, Some
from colonnade.reading import read_filter, read_question, split_words

from tests.asking import SHAPES, filter_for, question_for
from tests.helpers import check_raises


class WordsTest(unittest.TestCase):
    def test_words(self):
        cases = (
            ("", []), ("   ", []), ("from sales", ["from", "sales"]), ("  a  b ", ["a", "b"]),
            ("(a,b)", ["(", "a", ",", "b", ")"]), ("a<5", ["a", "<", "5"]), ("a<=5", ["a", "<=", "5"]),
            ("a<>b", ["a", "<>", "b"]), ("a< >b", ["a", "<", ">", "b"]), ("a>=<5", ["a", ">=", "<", "5"]),
            ("===", ["=", "=", "="]), ("<<>>=", ["<", "<>", ">="]), ("=<", ["=", "<"]), ("><", [">", "<"]),
            ("a-5", ["a", "-5"]), ("5-5", ["5", "-5"]), ("-05", ["-05"]), ("ab12cd", ["ab", "12", "cd"]),
            ("a='rome'", ["a", "=", "'rome'"]), ("''", ["''"]), ("'a b'c", ["'a b'", "c"]),
            ("'A-(,'", ["'A-(,'"]), ("'a''b'", ["'a'", "'b'"]), ("12345678901", ["12345678901"]),
            ("abcdefghijk", ["abcdefghijk"]), ("in(1,-2)", ["in", "(", "1", ",", "-2", ")"]),
        )
        for text, words in cases:
            self.assertEqual(split_words(text), words)

    def test_characters_of_no_word(self):
        cases = (
            ("A", 0), ("a B", 1), ("a + b", 1), ("5.5", 1), ("a;", 1), ("!", 0), ("a [b]", 1), ("-", 0), ("a - 5", 1),
            ("--5", 0), ("5-", 1), ("-a", 0), ("a, -b", 2), ("'", 0), ("a 'b", 1), ("'a' 'b' '", 2), ("a'b", 1),
            ("a\"b", 1), ("a_b", 1), ("'a'b'", 2),
        )
        for text, at in cases:
            check_raises(self, Unread, {"at": at}, split_words, text)
            check_raises(self, Unread, {"at": at}, read_filter, text)
            check_raises(self, Unread, {"at": at}, read_question, text, SHAPES)

    def test_the_whole_text_is_divided_first(self):
        check_raises(self, Unread, {"at": 4}, read_question, "tell tell tell tell !", SHAPES)
        check_raises(self, Unread, {"at": 5}, read_filter, ") ) ) ) ) 'a")


class FilterTest(unittest.TestCase):
    def test_written_forms(self):
        for text in (
            "price < 40", "city = 'rome'", "price <> -7", "price <= 0", "a > b", "a >= 5", "price in (1, 2, 5)",
            "city in ('a', 'b')", "a = 1 and b = 2 and c = 3", "a = 1 or b = 2 or c = 3", "a = 1 and b = 2 or c = 3",
            "(a = 1 or b = 2) and c = 3", "not a = 1", "not not a = 1", "not (a = 1 and b = 2)",
            "not (a = 1 or not (b = 2 and a = b))", "city = 'from'", "a = 999999999", "a = -999999999",
        ):
            self.assertEqual(read_filter(text).text, text)

    def test_other_texts(self):
        for text, form in (
            ("((a=1))", "a = 1"), ("a=1 or(b=2 or c=3)", "a = 1 or b = 2 or c = 3"),
            ("a=1 and(b=2 and(c=3))", "a = 1 and b = 2 and c = 3"), ("a in(5,1,5)", "a in (1, 5)"),
            ("not(a=1)", "not a = 1"), ("(a<5or b<5)and c<5", "(a < 5 or b < 5) and c < 5"),
            ("a=1 or b=2 and c=3", "a = 1 or b = 2 and c = 3"),
        ):
            self.assertEqual(read_filter(text).text, form)

    def test_classes(self):
        test = read_filter("a = 1 or not (b < c and d in (1, 2))")
        self.assertIs(test.__class__, Some)
        self.assertIs(test.parts[0].__class__, Compare)
        self.assertIs(test.parts[1].__class__, Opposite)
        self.assertIs(test.parts[1].part.__class__, Every)
        self.assertEqual(test.parts[1].part.parts[1].choices, (1, 2))

    def test_deep_texts(self):
        for deep in (5, 20, 25):
            self.assertEqual(read_filter("(" * deep + "a = 1" + ")" * deep).text, "a = 1")
            self.assertEqual(read_filter("not " * deep + "a = 1").text, "not " * deep + "a = 1")
            nested = "not (" * deep + "a = 1 or b = 2" + ")" * deep
            self.assertEqual(read_filter(nested).text.count("not"), deep)

    def test_random_filters(self):
        dice = random.Random(5)
        columns = [column for table in SHAPES.tables for column in SHAPES.columns_of(table)]
        for _ in range(300):
            test = filter_for(dice, SHAPES, columns, 3)
            self.assertEqual(read_filter(test.text).text, test.text)

    def test_unread(self):
        cases = (
            ("", 0), ("a", 1), ("a =", 2), ("a = 1 and", 4), ("a = 1 b", 3), ("a = 1)", 3), ("(a = 1", 4), ("()", 1),
            ("not", 1), ("not and", 1), ("and a = 1", 0), ("a 5", 1), ("5 = a", 0), ("'a' = b", 0), ("a = = 1", 2),
            ("a in", 2), ("a in 5", 2), ("a in ()", 3), ("a in (1", 4), ("a in (1,", 5), ("a in (1,)", 5),
            ("a in (1 2)", 4), ("a in (b)", 3), ("a not in (1)", 1), ("a = not", 2), ("a in = 1", 2), ("a < in", 2),
            ("a = count", 2), ("first = 1", 0), ("abcdefghi = 1", 0), ("a = abcdefghi", 2), ("a = 'b' tell", 3),
            ("a , b", 1), ("a = 1 or or b = 1", 4), ("a = 1 or b", 5),
        )
        for text, at in cases:
            check_raises(self, Unread, {"at": at}, read_filter, text)

    def test_words_that_are_no_values(self):
        for word in ("1000000000", "-1000000000", "00", "01", "-0", "-01", "''", "'A'", "'a b'", "'abcdefghi'", "'1'",
                     "9" * 5000, "-" + "9" * 5000):
            check_raises(self, Unread, {"at": 2}, read_filter, f"a = {word}")
            check_raises(self, Unread, {"at": 5}, read_filter, f"a in (1, {word})")

    def test_numbers_of_nine_figures_and_of_more(self):
        front = "from sales where price < {} tell many"
        for many in range(1, 10):
            for sign in ("", "-"):
                number = int(sign + "987654321"[:many])
                self.assertEqual(read_filter(f"a = {number}").value, number)
                self.assertEqual(read_filter(f"a in (1, {number})").choices, tuple(sorted([1, number])))
                self.assertEqual(read_question(front.format(number), SHAPES).tests[0].value, number)
        for many in (10, 11, 12, 20, 300, 5000):
            for word in ("9" * many, "1" + "0" * (many - 1), "-" + "9" * many, "-1" + "0" * (many - 1)):
                self.assertEqual(split_words(f"a={word}"), ["a", "=", word])
                check_raises(self, Unread, {"at": 2}, read_filter, f"a = {word}")
                check_raises(self, Unread, {"at": 5}, read_filter, f"a in (1, {word})")
                check_raises(self, Unread, {"at": 5}, read_question, front.format(word), SHAPES)
                for part in ("first", "at"):
                    check_raises(self, Unread, {"at": 5}, read_question, f"from sales tell many {part} {word}", SHAPES)

    def test_values_of_another_domain(self):
        check_raises(self, Unread, {"at": 5}, read_filter, "a in (1, 'b')")
        check_raises(self, Unread, {"at": 7}, read_filter, "a in ('b', 'c', 1, -0)")
        check_raises(self, Unread, {"at": 5}, read_filter, "a in (1, 'B', 'b')")

    def test_too_many_choices(self):
        eight = "a in (1, 2, 3, 4, 5, 6, 7, 8)"
        self.assertEqual(read_filter(eight).text, eight)
        check_raises(self, TooMany, {"part": "in"}, read_filter, "a in (1, 2, 3, 4, 5, 6, 7, 8, 9)")
        check_raises(self, TooMany, {"part": "in"}, read_filter, "a = 1 and (b in (1, 1, 1, 1, 1, 1, 1, 1, 1) or c = d)")
        check_raises(self, Unread, {"at": 22}, read_filter, "a in (1, 1, 1, 1, 1, 1, 1, 1, 1) and")


class QuestionTest(unittest.TestCase):
    def check(self, text, at):
        check_raises(self, Unread, {"at": at}, read_question, text, SHAPES)

    def test_parts(self):
        question = read_question(
            "from sales join shops on city=town where price<40 and(floor=1 or floor=2)group day,owner "
            "tell day,count,sum cost order count down,day,least price first 5 at 0", SHAPES)
        self.assertEqual((question.tables, question.joins), (("sales", "shops"), (("city", "town"),)))
        self.assertEqual([test.text for test in question.tests], ["price < 40", "floor = 1 or floor = 2"])
        self.assertEqual(question.groups, ("day", "owner"))
        self.assertEqual(question.tells, (("column", "day"), ("count", ""), ("sum", "cost")))
        self.assertEqual(question.sorts, (("count", "", True), ("column", "day", False), ("least", "price", False)))
        self.assertEqual((question.most, question.moment), (5, 0))
        self.assertIs(question.shapes, SHAPES)

    def test_example(self):
        self.check("from sales where (price<40 or city='rome') tell city,sum price group city", 17)
        text = "from sales where (price<40 or city='rome') group city tell city,sum price"
        self.assertEqual(str(read_question(text, SHAPES)),
                         "from sales where price < 40 or city = 'rome' group city tell city, sum price")

    def test_unread(self):
        for text, at in (
            ("", 0), ("sales", 0), ("from", 1), ("from from", 1), ("from 'a'", 1), ("from sales", 2),
            ("from sales shops", 2), ("from sales join", 3), ("from sales join on", 3), ("from sales join shops", 4),
            ("from sales join shops on", 5), ("from sales join shops on city", 6),
            ("from sales join shops on city <= town", 6), ("from sales join shops on city = 5", 7),
            ("from sales join shops on city = town", 8), ("from sales, shops tell city", 2),
            ("from sales where", 3), ("from sales where tell", 3), ("from sales where price tell", 4),
            ("from sales where price < 40", 6), ("from sales where price < 40 join", 6),
            ("from sales group", 3), ("from sales group tell", 3), ("from sales group count tell", 3),
            ("from sales group city", 4), ("from sales group city,", 5), ("from sales group city where", 4),
            ("from sales tell", 3), ("from sales tell down", 3), ("from sales tell city,", 5),
            ("from sales tell city price", 4), ("from sales tell count price", 4), ("from sales tell sum", 4),
            ("from sales tell sum count", 4), ("from sales tell least least", 4), ("from sales tell city down", 4),
            ("from sales tell distinct, city", 4), ("from sales tell city order", 5),
            ("from sales tell city order down", 5), ("from sales tell city order city down down", 7),
            ("from sales tell city order city,", 7), ("from sales tell city order city first", 7),
            ("from sales tell city order city group", 6), ("from sales tell city tell city", 4),
            ("from sales tell city first", 5), ("from sales tell city first at", 5),
            ("from sales tell city first 5 order city", 6), ("from sales tell city at 5 first 5", 6),
            ("from sales tell city at", 5), ("from sales tell city at 5 5", 6), ("from sales tell city first 5,", 6),
            ("from sales tell (city)", 3), ("from sales tell city where price = 1", 4),
        ):
            self.check(text, at)

    def test_numbers_behind_first_and_at(self):
        for word in ("0", "1000", "01", "-1", "-0", "00", "'a'", "city", "9" * 5000):
            self.check(f"from sales tell city first {word} at 5", 5)
        for word in ("1000", "00", "01", "-1", "-0", "first"):
            self.check(f"from sales tell city first 5 at {word}", 7)
        for first, at in ((1, 0), (999, 999), (10, 1)):
            question = read_question(f"from sales tell city first {first} at {at}", SHAPES)
            self.assertEqual((question.most, question.moment), (first, at))

    def test_texts_that_end_too_early(self):
        whole = ("from sales join shops on city = town where not (price < 40 or day in (1, 2)) and cost > price "
                 "group city, day tell city, least price order sum cost down, day first 5 at 3")
        words = split_words(whole)
        complete = set()
        for many in range(len(words)):
            try:
                read_question(" ".join(words[:many]), SHAPES)
                complete.add(words[many])
            except Unread as error:
                self.assertEqual(error.at, many)
            except (NoColumn, BadItem):
                complete.add(words[many])
        self.assertEqual(complete, {",", "order", "down", "first", "at"})

    def test_words_that_can_stand_nowhere(self):
        dice = random.Random(6)
        for _ in range(60):
            words = split_words(question_for(dice).text)
            at = dice.randint(0, len(words))
            for word in ("''", "-0", "abcdefghi"):
                self.check(" ".join(words[:at] + [word] + words[at:]), at)
                self.check(" ".join(words[:at] + [word]), at)

    def test_too_many(self):
        item = "from sales tell " + ", ".join(["count"] * 6)
        self.assertEqual(len(read_question(item, SHAPES).tells), 6)
        joins = "from a" + " join b on c = d" * 3
        choices = " where x in (1, 2, 3, 4, 5, 6, 7, 8, 9)"
        groups = " group a, b, c, d"
        tells = " tell " + ", ".join(["count"] * 7)
        keys = " order a, b, c, d"
        cases = (
            ("join", joins + " tell count"), ("in", "from nope" + choices + " tell count"),
            ("group", "from nope" + groups + " tell count"), ("tell", "from nope" + tells),
            ("order", "from nope tell count" + keys), ("join", joins + choices + groups + tells + keys),
            ("in", "from nope" + choices + groups + tells + keys), ("group", "from nope" + groups + tells + keys),
            ("tell", "from nope" + tells + keys),
        )
        for part, text in cases:
            check_raises(self, TooMany, {"part": part}, read_question, text, SHAPES)
            check_raises(self, Unread, {"at": len(split_words(text)) + 1}, read_question, text + " first", SHAPES)
        three = "from sales group city, day, many tell count order count, city, sum price"
        self.assertEqual(read_question(three, SHAPES).text, three)

    def test_errors_of_question(self):
        for kind, attributes, text in (
            (NoTable, {"name": "nope"}, "from nope tell x"),
            (Twice, {"name": "sales"}, "from sales join sales on city = city tell city"),
            (NoColumn, {"name": "town"}, "from sales tell town"),
            (Mismatch, {"first": "city", "second": "rent"}, "from sales join shops on city = rent tell city"),
            (BadConstant, {"column": "city"}, "from sales where city = 5 tell city"),
            (BadConstant, {"column": "price"}, "from sales where price in ('a') tell city"),
            (BadItem, {"what": "column", "column": "city"}, "from sales tell city, count"),
        ):
            check_raises(self, kind, attributes, read_question, text, SHAPES)


if __name__ == "__main__":
    unittest.main()
