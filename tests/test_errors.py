import unittest

from barlabel import errors
from barlabel.checks import labelled, mended
from barlabel.desk import Desk
from barlabel.founts import Fount
from barlabel.rolls import Roll
from barlabel.scans import scanned
from barlabel.tables import Table
from barlabel.writing import written
from samples import NARROW, PLAIN

NAMES = ["NoTable", "NoSymbol", "NoReading", "NoWriting", "TooLong", "Spoilt", "NoFount", "NoLabel", "NoRoom",
         "Mixed", "Lost", "NoForm", "NoName"]


class Errors(unittest.TestCase):
    def test_any_refusal_is_a_value_error(self):
        self.assertTrue(issubclass(errors.LabelError, ValueError))

    def test_each_refusal_is_there_and_stands_under_label_error(self):
        for name in NAMES:
            with self.subTest(name=name):
                kind = getattr(errors, name)
                self.assertTrue(issubclass(kind, errors.LabelError))
                self.assertIsNot(kind, errors.LabelError)

    def test_no_refusal_stands_under_another_one(self):
        for name in NAMES:
            for other in NAMES:
                if name != other:
                    with self.subTest(name=name, other=other):
                        self.assertFalse(issubclass(getattr(errors, name), getattr(errors, other)))

    def refused(self, function, *arguments):
        with self.assertRaises(errors.LabelError) as caught:
            function(*arguments)
        return caught.exception

    def test_refusals_are_of_their_very_class_and_have_their_fields(self):
        table = Table(PLAIN)
        refusal = self.refused(Table, "symbols 5")
        self.assertIs(type(refusal), errors.NoTable)
        self.assertEqual(refusal.row, 1)
        refusal = self.refused(table.read, [0, 5])
        self.assertIs(type(refusal), errors.NoSymbol)
        self.assertEqual(refusal.number, 1)
        refusal = self.refused(table.read, [0, 0, 4])
        self.assertIs(type(refusal), errors.NoReading)
        self.assertEqual(refusal.number, 2)
        refusal = self.refused(written, table, "aaax")
        self.assertIs(type(refusal), errors.NoWriting)
        self.assertEqual(refusal.number, 3)

    def test_refusals_of_checks(self):
        for function in (labelled, mended):
            refusal = self.refused(function, 5, [0, 1, 5])
            self.assertIs(type(refusal), errors.NoSymbol)
            self.assertEqual(refusal.number, 2)
            refusal = self.refused(function, 5, [0] * 6)
            self.assertIs(type(refusal), errors.TooLong)
            self.assertEqual(refusal.length, 6)
        self.assertIs(type(self.refused(mended, 5, [1, 4])), errors.Spoilt)
        self.assertIs(type(self.refused(mended, 5, [None] * 3)), errors.Spoilt)

    def test_refusals_of_founts_and_scans(self):
        fount = Fount(*NARROW)
        self.assertIs(type(self.refused(Fount, 5, 7, [], [])), errors.NoFount)
        refusal = self.refused(fount.printed, [0, 20])
        self.assertIs(type(refusal), errors.NoSymbol)
        self.assertEqual(refusal.number, 1)
        for refusal in (self.refused(fount.looked, 5, []), self.refused(fount.looked, 5, [1] * 9),
                        self.refused(scanned, fount, 5, []), self.refused(scanned, fount, 5, [0] * 10),
                        self.refused(scanned, fount, 5, list(range(10)))):
            self.assertIs(type(refusal), errors.NoLabel)
            self.assertIsNone(refusal.number)

    def test_refusals_of_rolls(self):
        roll = Roll(7, 1)
        labels = roll.parted([1, 2, 3])
        self.assertIs(type(self.refused(Roll, 7, 3)), errors.NoRoom)
        refusal = self.refused(roll.parted, [0, 7])
        self.assertIs(type(refusal), errors.NoSymbol)
        self.assertEqual(refusal.number, 1)
        refusal = self.refused(roll.parted, [0] * 7)
        self.assertIs(type(refusal), errors.TooLong)
        self.assertEqual(refusal.length, 7)
        for ask in (roll.gathered, roll.all_labels):
            refusal = self.refused(ask, labels + [None])
            self.assertIs(type(refusal), errors.NoLabel)
            self.assertEqual(refusal.number, 4)
            refusal = self.refused(ask, labels + roll.parted([1]))
            self.assertIs(type(refusal), errors.Mixed)
            self.assertEqual(refusal.number, 4)
            refusal = self.refused(ask, [labelled(7, [0, 1, 2, 0])] + roll.parted([])[1:])
            self.assertIs(type(refusal), errors.Mixed)
            self.assertIsNone(refusal.number)
            refusal = self.refused(ask, labels[2:])
            self.assertIs(type(refusal), errors.Lost)
            self.assertEqual(refusal.numbers, [0, 1])

    def test_refusals_of_the_desk(self):
        desk = Desk()
        self.assertIs(type(self.refused(desk.say, "show")), errors.NoForm)
        self.assertIs(type(self.refused(desk.say, "show a")), errors.NoName)
        refusal = self.refused(desk.say, "table a symbols 5")
        self.assertIs(type(refusal), errors.NoTable)
        self.assertEqual(refusal.row, 1)


if __name__ == "__main__":
    unittest.main()
