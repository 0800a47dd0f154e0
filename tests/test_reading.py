import random
import unittest

from barlabel.errors import NoReading, NoSymbol
from barlabel.tables import Table
from samples import APART, FULL, NO_SYMBOLS, PLAIN, PRIMES, SIGNS, SMALL, made_row, made_tables, read_slowly


class Reading(unittest.TestCase):
    def check_refused(self, text, row, kind, number):
        table = Table(text)
        handed = list(row)
        with self.subTest(text=text, row=row):
            with self.assertRaises(kind) as caught:
                table.read(handed)
            self.assertEqual(caught.exception.number, number)
            self.assertIs(type(caught.exception.number), int)
            self.assertEqual([repr(thing) for thing in handed], [repr(thing) for thing in row])

    def check_read(self, text, row):
        expected = read_slowly(text, row)
        if isinstance(expected, int):
            self.check_refused(text, row, NoReading, expected)
        else:
            handed = list(row)
            self.assertEqual(Table(text).read(handed), expected)
            self.assertEqual(handed, row)

    def test_row_without_symbols(self):
        for text in SMALL:
            self.assertEqual(Table(text).read([]), "")

    def test_signs(self):
        self.assertEqual(Table(PLAIN).read([0, 1, 1, 0]), "abba")
        every = Table("symbols 37\n" + " ".join(SIGNS) + " -")
        self.assertEqual(every.read(list(range(36))), SIGNS)

    def test_lock_holds_from_the_next_symbol_on(self):
        self.assertEqual(Table(PLAIN).read([0, 2, 0, 1, 4, 0]), "ac7ac")
        self.assertEqual(Table(PLAIN).read([2, 0, 2, 0]), "ca")
        self.assertEqual(Table(PLAIN).read([2, 3, 3, 0]), "c")

    def test_locks_alone_give_no_sign(self):
        self.assertEqual(Table(PLAIN).read([2]), "")
        self.assertEqual(Table(PLAIN).read([0, 2, 2, 2]), "a")

    def test_shift_holds_for_one_symbol(self):
        self.assertEqual(Table(PLAIN).read([3, 0, 0]), "ca")
        self.assertEqual(Table(PLAIN).read([0, 3, 1, 3, 4, 1]), "a7ab")

    def test_behind_a_shift_the_case_is_the_one_ahead_of_it(self):
        # From case 1 the shift to case 3 must lead back to 1, not to 0 and not stay in 3.
        self.assertEqual(Table(FULL).read([2, 3, 0, 0]), "9c")
        self.assertEqual(Table(FULL).read([2, 2, 3, 0, 0]), "cd")

    def test_shift_to_the_case_itself(self):
        self.assertEqual(Table(FULL).read([4, 0, 1]), "ab")

    def test_each_reading_begins_in_case_0(self):
        table = Table(PLAIN)
        self.assertEqual(table.read([2, 0]), "c")
        self.assertEqual(table.read([0]), "a")
        with self.assertRaises(NoReading):
            table.read([3])
        self.assertEqual(table.read([0]), "a")
        with self.assertRaises(NoReading):
            table.read([2, 0, 2, 2, 0, 2, 4])
        self.assertEqual(table.read([1]), "b")

    def test_symbol_that_means_nothing(self):
        self.check_refused(PLAIN, [4], NoReading, 0)
        self.check_refused(PLAIN, [0, 2, 0, 2, 4, 4], NoReading, 4)
        self.check_refused(PLAIN, [0, 1, 4, 3], NoReading, 2)

    def test_behind_a_shift_no_sign(self):
        self.check_refused(PLAIN, [3, 2], NoReading, 1)
        self.check_refused(PLAIN, [0, 3, 3, 0], NoReading, 2)
        self.check_refused(FULL, [3, 2, 0], NoReading, 1)
        self.check_refused(FULL, [3, 3, 0], NoReading, 1)
        self.check_refused(FULL, [3, 5, 0], NoReading, 1)
        self.check_refused(FULL, [0, 4, 4, 0], NoReading, 2)
        self.check_refused(APART, [4, 1], NoReading, 1)

    def test_row_that_ends_with_a_shift(self):
        self.check_refused(PLAIN, [3], NoReading, 1)
        self.check_refused(PLAIN, [0, 2, 0, 2, 3], NoReading, 5)

    def test_things_that_are_no_symbols(self):
        things = NO_SYMBOLS + [5, 6, 47]
        for thing in things:
            self.check_refused(PLAIN, [thing], NoSymbol, 0)
            self.check_refused(PLAIN, [0, 1, thing, 0], NoSymbol, 2)
            self.check_refused(PLAIN, [0, 1, 0, thing], NoSymbol, 3)
            for other in things:
                self.check_refused(PLAIN, [0, thing, other], NoSymbol, 1)

    def test_no_symbol_is_refused_ahead_of_all_else(self):
        self.check_refused(PLAIN, [4, 5], NoSymbol, 1)
        self.check_refused(PLAIN, [3, None], NoSymbol, 1)
        self.check_refused(PLAIN, [3, 2, 4, 4, True, 3], NoSymbol, 4)
        self.check_refused(PLAIN, [4, 0, 0, -1, 3], NoSymbol, 3)

    def test_least_and_greatest_symbol_of_each_prime(self):
        for prime in PRIMES:
            text = f"symbols {prime}\nx" + " -" * (prime - 2) + " y"
            self.assertEqual(Table(text).read([prime - 1, 0]), "yx")
            self.check_refused(text, [0, prime], NoSymbol, 1)
            self.check_refused(text, [-1], NoSymbol, 0)

    def test_many_rows(self):
        chance = random.Random(6)
        for text in SMALL + [FULL] + made_tables(61, 40, SIGNS):
            prime = Table(text).prime()
            for turn in range(30):
                row = made_row(chance, text, chance.randint(0, 30))
                self.check_read(text, row)
                self.check_read(text, row + [chance.randrange(prime) for place in range(4)])

    def test_long_rows(self):
        table = Table(PLAIN)
        self.assertEqual(table.read([0] * 1500), "a" * 1500)
        self.assertEqual(table.read([3, 0] * 750), "c" * 750)
        self.assertEqual(table.read([2] * 1499 + [1]), "7")
        self.assertEqual(table.read([2, 2, 0] * 500), "a" * 500)
        self.check_refused(PLAIN, [0] * 1499 + [3], NoReading, 1500)
        self.check_refused(PLAIN, [0] * 1499 + [4], NoReading, 1499)
        self.check_refused(PLAIN, [4] * 1499 + [5], NoSymbol, 1499)

    def test_the_table_stays_as_it_is(self):
        table = Table(FULL)
        table.read([2, 3, 0, 0])
        with self.assertRaises(NoReading):
            table.read([3])
        with self.assertRaises(NoSymbol):
            table.read([7])
        self.assertEqual(table.shown(), FULL)
        self.assertEqual(table.means(0, 2), ("lock", 1))
        self.assertEqual((table.prime(), table.cases()), (7, 4))


if __name__ == "__main__":
    unittest.main()
