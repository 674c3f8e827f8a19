import inspect
import unittest

from colonnade import errors

LISTED = (
    "NoRelation(name)", "BadName(name)", "BadValue(value)", "BadDomain(domain)", "Unfit(chain)",
    "BadCells()", "BadChain(text)", "BadRoom(room)", "BadCode(code)", "Twice(name)", "Full(value)",
    "BadBook(value)", "NoValue(value)", "NoCode(code)", "NoPlace(rank)", "NoRoom(room)",
    "Mismatch(first, second)", "BadShape(table)", "NeedsBook(column)", "NoTable(name)", "NoColumn(name)",
    "NoBook(name)", "Unread(at)", "TooMany(part)", "BadConstant(column)", "BadItem(what, column)",
    "TooHeavy(weight)", "NoSlip(book, stage)", "BadRow(table, at)", "RuleRefused(rule)",
    "NotKept(moment)", "NotSeen(table, place)", "NoBlock(at)", "BadSizes(table)", "Unlike(book)",
    "BadOrder(table)", "BadMoments(moments)", "NoCarry(book)", "NoFile(name)", "BadLimit(limit)",
    "Fallen(steps)", "Lost()", "StillNeeded(name, record)",
)


class ErrorsTest(unittest.TestCase):
    def test_each_class_with_its_attributes(self):
        for text in LISTED:
            name, _, rest = text.partition("(")
            attributes = [part for part in rest[:-1].split(", ") if part]
            kind = getattr(errors, name)
            self.assertEqual(kind.__bases__, (errors.ColonnadeError,), name)
            worths = [object() for _ in attributes]
            error = kind(*worths)
            for attribute, worth in zip(attributes, worths):
                self.assertIs(getattr(error, attribute), worth)
            if attributes:
                parameters = list(inspect.signature(kind.__init__).parameters)
                self.assertEqual(parameters, ["self", *attributes])
            with self.assertRaises(kind):
                raise error

    def test_base_class(self):
        self.assertEqual(errors.ColonnadeError.__bases__, (ValueError,))

    def test_no_other_classes(self):
        found = [name for name, kind in vars(errors).items() if inspect.isclass(kind)]
        listed = [text.partition("(")[0] for text in LISTED]
        self.assertEqual(sorted(found), sorted([*listed, "ColonnadeError"]))


if __name__ == "__main__":
    unittest.main()
