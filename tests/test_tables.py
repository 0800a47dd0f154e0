import unittest

from barlabel.errors import NoTable
from barlabel.tables import Table
from samples import APART, FULL, NO_TEXTS, PLAIN, PRIMES, SIGNS, SMALL, made_tables, words_of


def expected_meaning(word):
    if word == "-":
        return ("nothing", None)
    if len(word) == 1:
        return ("sign", word)
    return (word[:-1], int(word[-1]))


class Tables(unittest.TestCase):
    def check_table(self, text):
        table = Table(text)
        words = words_of(text)
        self.assertEqual(table.prime(), len(words[0]))
        self.assertEqual(table.cases(), len(words))
        self.assertEqual(table.shown(), text)
        for case, row in enumerate(words):
            for symbol, word in enumerate(row):
                self.assertEqual(table.means(case, symbol), expected_meaning(word))

    def test_each_prime_and_each_number_of_cases(self):
        for prime in PRIMES:
            for cases in range(1, 5):
                with self.subTest(prime=prime, cases=cases):
                    rows = [" ".join((SIGNS * 2)[case:case + prime]) for case in range(cases)]
                    self.check_table("\n".join([f"symbols {prime}"] + rows))

    def test_each_sign(self):
        self.check_table("symbols 37\n" + " ".join(SIGNS) + " -")

    def test_each_kind_of_meaning(self):
        table = Table(FULL)
        self.assertEqual(table.means(0, 0), ("sign", "a"))
        self.assertEqual(table.means(0, 2), ("lock", 1))
        self.assertEqual(table.means(0, 3), ("shift", 2))
        self.assertEqual(table.means(0, 4), ("shift", 0))
        self.assertEqual(table.means(0, 5), ("nothing", None))
        self.assertEqual(table.means(0, 6), ("lock", 0))
        self.assertEqual(table.means(1, 3), ("shift", 3))
        self.assertEqual(table.means(2, 1), ("sign", "0"))
        self.assertEqual(table.means(3, 0), ("sign", "9"))
        self.assertEqual(table.means(3, 6), ("lock", 2))

    def test_kinds_of_what_is_given(self):
        table = Table(FULL)
        self.assertIs(type(table.prime()), int)
        self.assertIs(type(table.cases()), int)
        self.assertIs(type(table.shown()), str)
        for case in range(4):
            for symbol in range(7):
                meaning = table.means(case, symbol)
                self.assertIs(type(meaning), tuple)
                self.assertEqual(len(meaning), 2)
                kind = {"sign": str, "lock": int, "shift": int, "nothing": type(None)}[meaning[0]]
                self.assertIs(type(meaning[1]), kind)

    def test_locks_and_shifts_to_each_case_from_each_case(self):
        for cases in range(1, 5):
            row = " ".join([f"{kind}{case}" for case in range(cases) for kind in ("lock", "shift")])
            row += " -" * (11 - 2 * cases)
            with self.subTest(cases=cases):
                self.check_table("\n".join(["symbols 11"] + [row] * cases))

    def test_the_same_word_in_several_places_and_a_case_that_means_nothing(self):
        self.check_table("symbols 5\na a a a a\nlock0 lock0 shift1 shift1 a\n- - - - -")
        self.check_table("symbols 5\n- - - - -")

    def test_many_tables(self):
        for text in SMALL + [FULL] + made_tables(4, 60, SIGNS):
            with self.subTest(text=text):
                self.check_table(text)

    def test_tables_stand_apart_from_one_another(self):
        first = Table(PLAIN)
        second = Table(APART)
        self.assertEqual(first.shown(), PLAIN)
        self.assertEqual(second.shown(), APART)
        self.assertEqual(first.means(1, 0), ("sign", "c"))
        self.assertEqual(second.means(1, 0), ("sign", "b"))


class TablesRefused(unittest.TestCase):
    def check_refused(self, thing, row):
        with self.subTest(thing=thing):
            with self.assertRaises(NoTable) as caught:
                Table(thing)
            self.assertEqual(caught.exception.row, row)
            self.assertIsNot(type(caught.exception.row), bool)

    def test_what_is_no_text(self):
        for thing in NO_TEXTS:
            self.check_refused(thing, None)

    def test_first_row_with_a_number_that_is_no_prime(self):
        for number in list(range(-3, 110)) + [10 ** 19 + 51]:
            if number not in PRIMES:
                self.check_refused(f"symbols {number}\n" + " ".join("a" * max(number % 1000, 1)), 0)

    def test_first_row_written_otherwise(self):
        for first in ["", " ", "5", "symbols", "symbols ", "symbols  5", " symbols 5", "symbols 5 ", "symbols 5  ",
                      "symbols5", "symbols 05", "symbols 005", "symbols +5", "symbols -5", "symbols 5.0",
                      "symbols 5 5", "symbols 5 a", "Symbols 5", "SYMBOLS 5", "symbol 5", "symbols five",
                      "symbols a", "symbols x5", "symbols 1_1", "symbols 0x5", "symbols lock5", "asymbols 5", "-",
                      "a b c d e", "symbols\t5", "symbols 5\t", "symbols: 5", "5 symbols", "symbols 55"]:
            self.check_refused(first, 0)
            self.check_refused(first + "\na b c d e", 0)
            self.check_refused(first + "\na b c d", 0)
            self.check_refused(first + "\na b c d e" * 5, 0)
        self.check_refused("\nsymbols 5\na b c d e", 0)
        self.check_refused("\n", 0)

    def test_more_than_five_rows(self):
        for cases in (5, 6, 9):
            self.check_refused("symbols 5" + "\na b c d e" * cases, 5)
        self.check_refused("symbols 5" + "\na b c d e" * 4 + "\n", 5)
        self.check_refused("symbols 5" + "\na b c d lock4" * 5, 5)

    def test_more_than_five_rows_and_a_wrong_one_above(self):
        for wrong in range(5):
            rows = ["a b c d e"] * 5
            rows[wrong] = "a b c d"
            self.check_refused("\n".join(["symbols 5"] + rows), 5)
        self.check_refused("symbols 5\n\n\n\n\n\n", 5)

    def test_one_row_alone(self):
        for prime in PRIMES:
            self.check_refused(f"symbols {prime}", 1)

    def test_wrong_row(self):
        for wrong in ["", " ", "a b c d", "a b c d e f", "a", " a b c d e", "a b c d e ", "a  b c d e", "a  b c d",
                      "a b c d  ", " a b c d", "abcde", "ab c d e f", "a b c d ef", "A b c d e", "a b c d Z",
                      "a b c d --", "a b c d .", "a b c d _", "a b c d +", "a b c d ~", "a b c d ;", "a b c d 10",
                      "a b c d -1", "a b c d lock", "a b c d shift", "a b c d lock4", "a b c d shift4",
                      "a b c d lock9", "a b c d lock00", "a b c d lock01", "a b c d shift00", "a b c d shift10",
                      "a b c d lock-", "a b c d lock-1", "a b c d lock+0", "a b c d locka", "a b c d shifta",
                      "a b c lock 0", "a b c d Lock0", "a b c d LOCK0", "a b c d Shift0", "a b c d SHIFT0",
                      "a b c d lok0", "a b c d 0lock", "a b c d lock0a", "a b c d alock0", "a b c d lock0shift0",
                      "a b c d nothing", "a b c d None", "a,b,c,d,e", "a\tb c d e", "a b c d e\t", "symbols 5"]:
            self.check_refused("symbols 5\n" + wrong, 1)
            for cases in range(2, 5):
                for number in range(1, cases + 1):
                    rows = ["symbols 5"] + ["a b lock0 shift1 -"] * cases
                    rows[number] = wrong
                    self.check_refused("\n".join(rows), number)

    def test_lock_or_shift_to_a_case_that_is_not_there(self):
        for cases in range(1, 5):
            for kind in ("lock", "shift"):
                for number in range(1, cases + 1):
                    rows = ["symbols 5"] + ["a b c d e"] * cases
                    rows[number] = f"a b c d {kind}{cases}"
                    self.check_refused("\n".join(rows), number)

    def test_first_of_several_wrong_rows(self):
        self.check_refused("symbols 5\na b c d e\na b c\na b c d e\nA", 2)
        self.check_refused("symbols 5\na b c d lock3\n\na b c d e", 1)
        self.check_refused("symbols 5\na b c d lock2\n\na b c d e", 2)

    def test_line_feed_at_the_end_or_twice(self):
        self.check_refused("symbols 5\n", 1)
        self.check_refused("symbols 5\na b c d e\n", 2)
        self.check_refused("symbols 5\na b c d e\n\n", 2)
        self.check_refused("symbols 5\n\na b c d e", 1)
        self.check_refused("symbols 5\na b c d e\n\na b c d e", 2)
        self.check_refused("symbols 5\na b c d e\na b c d e\na b c d e\n", 4)

    def test_as_many_words_as_another_prime_has(self):
        for prime in PRIMES:
            self.check_refused(f"symbols {prime}\n" + " ".join("a" * (prime - 1)), 1)
            self.check_refused(f"symbols {prime}\n" + " ".join("a" * (prime + 1)), 1)


if __name__ == "__main__":
    unittest.main()
