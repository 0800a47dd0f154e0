import itertools
import random
import unittest

from barlabel.errors import NoWriting
from barlabel.tables import Table
from barlabel.writing import marks, written
from samples import (APART, EITHER, FORKED, FULL, NO_TEXTS, PLAIN, RING, ROUND, SIGNS, SINGLE, SMALL, TRAP,
                     expected_marks, first_unwritable, least_symbols, made_row, made_tables, made_texts, read_slowly)

MANY_TABLES = SMALL + [FULL] + made_tables(7, 300, "abc")


class Marks(unittest.TestCase):
    def check_marks(self, text, told):
        found = marks(Table(text), told)
        self.assertEqual(found, expected_marks(text, told), (text, told))
        self.assertIs(type(found), list)
        for places in found:
            self.assertIs(type(places), list)
            for mark in places:
                self.assertIn(type(mark), (int, type(None)))

    def test_empty_text(self):
        self.assertEqual(marks(Table(SINGLE), ""), [[0]])
        self.assertEqual(marks(Table(PLAIN), ""), [[0, 0]])
        self.assertEqual(marks(Table(FULL), ""), [[0, 0, 0, 0]])

    def test_signs_of_one_case(self):
        self.assertEqual(marks(Table(SINGLE), "aba"), [[3], [2], [1], [0]])

    def test_locks_in_a_ring(self):
        self.assertEqual(marks(Table(RING), "a"), [[1, 3, 2], [0, 0, 0]])
        self.assertEqual(marks(Table(RING), "ba"), [[5, 4, 6], [1, 3, 2], [0, 0, 0]])

    def test_a_shift_or_a_lock_whichever_saves_symbols(self):
        self.assertEqual(marks(Table(EITHER), "b"), [[2, 1], [0, 0]])
        self.assertEqual(marks(Table(EITHER), "ba")[0], [3, 3])
        self.assertEqual(marks(Table(EITHER), "bcb")[0], [4, 3])
        self.assertEqual(marks(Table(EITHER), "bca")[0], [5, 4])
        self.assertEqual(marks(Table(ROUND), "abba")[0], [6, 8, 7])

    def test_none_where_the_rest_cannot_be_written(self):
        self.assertEqual(marks(Table(TRAP), "bc"), [[None, None], [1, None], [0, 0]])
        self.assertEqual(marks(Table(TRAP), "cb"), [[3, None], [2, 1], [0, 0]])

    def test_a_case_that_cannot_be_come_to_has_marks_too(self):
        self.assertEqual(marks(Table(APART), "ba"), [[None, 3], [1, 2], [0, 0]])

    def test_signs_that_no_table_has(self):
        for sign in " A~-;\n_.":
            for text in SMALL:
                nones = [None] * Table(text).cases()
                noughts = [0] * Table(text).cases()
                self.assertEqual(marks(Table(text), sign), [nones, noughts])
                self.check_marks(text, "a" + sign + "ab")

    def test_words_of_a_table_are_no_signs(self):
        for told in ("-", "lock1", "shift1", "a b"):
            self.check_marks(PLAIN, told)

    def test_short_texts(self):
        for text in SMALL:
            for length in range(5):
                for signs in itertools.product("abc", repeat=length):
                    self.check_marks(text, "".join(signs))

    def test_many_tables(self):
        for number, text in enumerate(MANY_TABLES):
            for told in made_texts(number, 6, 9, "abc"):
                self.check_marks(text, told)

    def test_no_symbol_lowers_a_mark_by_more_than_its_own(self):
        for number, text in enumerate(MANY_TABLES):
            table = Table(text)
            for told in made_texts(number, 3, 12, "aabc"):
                found = marks(table, told)
                for place, sign in enumerate(told):
                    for case, mark in enumerate(found[place]):
                        for symbol in range(table.prime()):
                            meaning = table.means(case, symbol)
                            behind = None
                            if meaning == ("sign", sign):
                                behind = found[place + 1][case]
                            if meaning[0] == "lock":
                                behind = found[place][meaning[1]]
                            if behind is not None:
                                self.assertIsNotNone(mark)
                                self.assertLessEqual(mark, behind + 1)

    def test_long_texts(self):
        self.assertEqual(marks(Table(SINGLE), "ab" * 150), [[300 - number] for number in range(301)])
        self.assertEqual(marks(Table(RING), "c" * 300)[0], [302, 301, 300])
        for text in (FULL, ROUND, EITHER, PLAIN):
            for told in ("abccba" * 50, "aab" * 100, "c" * 150 + "ba" * 75):
                found = marks(Table(text), told)
                self.assertEqual(len(found), 301)
                self.assertEqual(found[0][0], least_symbols(text, told))
                self.assertEqual(found[150][-1], least_symbols(text, told[150:], len(found[0]) - 1))

    def test_lists_are_the_askers_own(self):
        table = Table(PLAIN)
        found = marks(table, "abc")
        first = [list(places) for places in found]
        found[0][0] = 99
        found[3].append(7)
        self.assertEqual(found[1:3], first[1:3])
        self.assertEqual(found[3], first[3] + [7])
        found[1].clear()
        found.append("more")
        self.assertEqual(marks(table, "abc"), first)
        self.assertEqual(marks(Table(PLAIN), "abc"), first)
        self.assertEqual(len(written(table, "abc")), first[0][0])
        self.assertEqual(found, [[99] + first[0][1:], [], first[2], first[3] + [7], "more"])

    def test_inner_lists_are_not_one_list(self):
        for told in ("", "a", "aa", "xx", "xax"):
            found = marks(Table(PLAIN), told)
            for number, places in enumerate(found):
                places.append(number)
            self.assertEqual([places[2:] for places in found], [[number] for number in range(len(told) + 1)])


class Written(unittest.TestCase):
    def check_written(self, text, told):
        table = Table(text)
        if first_unwritable(text, told) is not None:
            self.check_refused(text, told, first_unwritable(text, told))
            return
        row = written(table, told)
        self.assertIs(type(row), list)
        for symbol in row:
            self.assertIs(type(symbol), int)
        self.assertEqual(read_slowly(text, row), told)
        self.assertEqual(table.read(row), told)
        self.assertEqual(len(row), least_symbols(text, told), (text, told))
        self.assertEqual(len(row), marks(table, told)[0][0])

    def check_refused(self, text, told, number):
        with self.subTest(text=text, told=told):
            with self.assertRaises(NoWriting) as caught:
                written(Table(text), told)
            self.assertEqual(caught.exception.number, number)
            self.assertIsNot(type(caught.exception.number), bool)

    def test_empty_text(self):
        for text in MANY_TABLES:
            self.assertEqual(written(Table(text), ""), [])

    def test_rows_that_are_the_only_shortest(self):
        self.assertEqual(written(Table(PLAIN), "ab"), [0, 1])
        self.assertEqual(written(Table(EITHER), "aba"), [0, 2, 0, 0])
        self.assertEqual(written(Table(EITHER), "bcb"), [1, 0, 1, 0])
        self.assertEqual(written(Table(RING), "ba"), [1, 0, 1, 1, 0])
        self.assertEqual(written(Table(FORKED), "ab"), [1, 1, 0, 0])
        self.assertEqual(written(Table(TRAP), "ca"), [1, 0])
        self.assertEqual(written(Table(TRAP), "cab")[0], 1)

    def test_every_row_of_small_tables(self):
        for text in SMALL:
            table = Table(text)
            shortest = {}
            for length in range(7):
                for row in itertools.product(range(5), repeat=length):
                    told = read_slowly(text, list(row))
                    if isinstance(told, str):
                        shortest.setdefault(told, length)
            for told in shortest:
                row = written(table, told)
                self.assertEqual(len(row), shortest[told], (text, told))
                self.assertEqual(table.read(row), told)
            self.check_all_others_are_longer(table, shortest)

    def check_all_others_are_longer(self, table, shortest):
        for length in range(5):
            for signs in itertools.product("abc7", repeat=length):
                told = "".join(signs)
                if told not in shortest:
                    try:
                        self.assertGreater(len(written(table, told)), 6)
                    except NoWriting:
                        pass

    def test_many_tables(self):
        for number, text in enumerate(MANY_TABLES):
            for told in made_texts(number + 1000, 8, 12, "abc"):
                self.check_written(text, told)

    def test_texts_of_rows_that_are_read(self):
        chance = random.Random(8)
        for text in MANY_TABLES:
            for length in (3, 8, 20):
                row = made_row(chance, text, length)
                told = Table(text).read(row)
                self.check_written(text, told)
                self.assertLessEqual(len(written(Table(text), told)), len(row))

    def test_many_signs(self):
        for number, text in enumerate(made_tables(8, 60, SIGNS)):
            signs = "".join([word for word in text.split() if len(word) == 1 and word != "-"]) + "a"
            for told in made_texts(number, 6, 10, signs):
                self.check_written(text, told)

    def test_long_texts(self):
        self.check_written(SINGLE, "ab" * 150)
        self.check_written(RING, "cba" * 100)
        self.check_written(FULL, "abcd90ze" * 37)
        self.check_written(EITHER, "abcabb" * 50)
        self.check_written(TRAP, "a" * 150 + "c" + "ab" * 74)
        self.check_refused(TRAP, "ab" * 149 + "ac", 299)

    def test_refused_at_a_sign_that_no_table_has(self):
        for sign in " A~-;\n_.Z":
            for text in SMALL:
                self.check_refused(text, sign, 0)
                self.check_refused(text, "a" + sign, 1 if first_unwritable(text, "a") is None else 0)
            self.check_refused(PLAIN, "abc" + sign + "b" + sign, 3)
        self.check_refused(PLAIN, "a b", 1)
        self.check_refused(PLAIN, "lock1", 0)

    def test_refused_at_a_sign_that_this_table_has_not(self):
        self.check_refused(PLAIN, "abcz", 3)
        self.check_refused(PLAIN, "zabc", 0)
        self.check_refused("symbols 5\n- - - - -", "a", 0)

    def test_refused_at_the_first_sign_that_no_row_comes_to(self):
        # Each sign can be written by itself, but b leads into a case without a way back.
        self.check_refused(TRAP, "bc", 1)
        self.assertEqual(len(written(Table(TRAP), "acaba")), 6)
        self.check_refused(TRAP, "acabac", 5)
        self.check_refused(TRAP, "aabaacb", 5)
        self.check_refused(TRAP, "bz", 1)
        self.check_refused(APART, "ab", 1)

    def test_what_is_no_text(self):
        for thing in NO_TEXTS:
            self.check_refused(PLAIN, thing, None)

    def test_rows_are_the_askers_own(self):
        table = Table(FULL)
        for told in ("", "a", "c", "abc", "zeb"):
            row = written(table, told)
            first = list(row)
            row.insert(0, 5)
            row.append(6)
            again = written(table, told)
            self.assertEqual(len(again), len(first))
            self.assertEqual(table.read(again), told)
            self.assertEqual(row, [5] + first + [6])

    def test_the_table_stays_as_it_is(self):
        for text in SMALL:
            table = Table(text)
            for told in ("a", "abca", "zz", "b"):
                marks(table, told)
                try:
                    written(table, told)
                except NoWriting:
                    pass
            self.assertEqual(table.shown(), text)
            self.assertEqual(marks(table, "ab"), expected_marks(text, "ab"))
            self.assertEqual(table.read([0]), read_slowly(text, [0]))


if __name__ == "__main__":
    unittest.main()
