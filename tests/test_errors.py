import unittest

from barlabel import errors
from barlabel.tables import Table
from barlabel.writing import written
from samples import PLAIN

NAMES = ["NoTable", "NoSymbol", "NoReading", "NoWriting", "TooLong", "Spoilt", "NoFount", "NoLabel", "NoRoom",
         "Mixed", "Lost", "NoForm", "NoName"]


class Errors(unittest.TestCase):
    def test_any_refusal_is_a_value_error(self):
        self.assertTrue(issubclass(errors.LabelError, ValueError))

    def test_each_refusal_is_there_and_stands_under_label_error(self):
        for name in NAMES:
            with self.subTest(name=name):
                kind = getattr(errors, name)
                self.assertTrue(issubclass(kind, errors.LabelError))
                self.assertIsNot(kind, errors.LabelError)

    def test_no_refusal_stands_under_another_one(self):
        for name in NAMES:
            for other in NAMES:
                if name != other:
                    with self.subTest(name=name, other=other):
                        self.assertFalse(issubclass(getattr(errors, name), getattr(errors, other)))

    def refused(self, function, *arguments):
        with self.assertRaises(errors.LabelError) as caught:
            function(*arguments)
        return caught.exception

    def test_refusals_are_of_their_very_class_and_have_their_fields(self):
        table = Table(PLAIN)
        refusal = self.refused(Table, "symbols 5")
        self.assertIs(type(refusal), errors.NoTable)
        self.assertEqual(refusal.row, 1)
        refusal = self.refused(table.read, [0, 5])
        self.assertIs(type(refusal), errors.NoSymbol)
        self.assertEqual(refusal.number, 1)
        refusal = self.refused(table.read, [0, 0, 4])
        self.assertIs(type(refusal), errors.NoReading)
        self.assertEqual(refusal.number, 2)
        refusal = self.refused(written, table, "aaax")
        self.assertIs(type(refusal), errors.NoWriting)
        self.assertEqual(refusal.number, 3)


if __name__ == "__main__":
    unittest.main()
