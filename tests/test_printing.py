import unittest

from colonnade.plainly import plain_answer
from colonnade.printing import answer_lines
from colonnade.reading import read_question

from tests.asking import SHAPES
from tests.helpers import check_unchanged


def lines(text, answer):
    return answer_lines(read_question(text, SHAPES), answer)


class PrintingTest(unittest.TestCase):
    def test_numbers_and_words(self):
        self.assertEqual(lines("from sales tell city, price", [("rome", 10), ("oslo", -5)]), [
            "city         |        price",
            "rome         |           10",
            "oslo         |           -5",
            "2 rows",
        ])

    def test_each_kind_of_item(self):
        text = ("from sales join staff on city = home group city tell city, count, least name, greatest name, "
                "distinct name, least price order count")
        question = read_question(text, SHAPES)
        self.assertEqual(answer_lines(question, [("rome", 3, "ada", "bob", 2, 7)]), [
            "city         |        count | least name   | greatest name | distinct name |  least price",
            "rome         |            3 | ada          | bob          |            2 |            7",
            "1 rows",
        ])
        self.assertEqual(lines("from sales tell sum price, greatest cost, distinct city", [(1, 2, 3)]), [
            "   sum price | greatest cost | distinct city",
            "           1 |            2 |            3",
            "1 rows",
        ])

    def test_no_rows(self):
        self.assertEqual(lines("from sales tell city", []), ["city        ", "0 rows"])
        self.assertEqual(lines("from sales tell price", []), ["       price", "0 rows"])

    def test_spaces_at_the_end_are_kept(self):
        self.assertEqual(lines("from sales tell price, city", [(10, "rome")])[:2],
                         ["       price | city        ", "          10 | rome        "])

    def test_long_entries_are_not_cut(self):
        self.assertEqual(lines("from sales tell sum price, count", [(-1234567890123, 1)]), [
            "   sum price |        count", "-1234567890123 |            1", "1 rows"])
        self.assertEqual(lines("from sales tell sum price", [(123456789012,)])[1], "123456789012")

    def test_a_real_answer(self):
        question = read_question("from sales group city tell city, sum many order city down", SHAPES)
        rows = {"sales": [("oslo", 1, 1, 5, 1), ("rome", 1, 1, 7, 1), ("oslo", 1, 1, 9, 1)]}
        answer = plain_answer(question, rows)
        self.assertEqual(check_unchanged(self, answer_lines, question, answer), [
            "city         |     sum many", "rome         |            7", "oslo         |           14", "2 rows"])


if __name__ == "__main__":
    unittest.main()
