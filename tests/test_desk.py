import random
import re
import unittest

from barlabel.apart import apart
from barlabel.checks import labelled, mended
from barlabel.desk import Desk
from barlabel.errors import (LabelError, NoForm, NoName, NoReading, NoSymbol, NoTable, NoWriting, Spoilt, TooLong)
from barlabel.tables import Table
from barlabel.writing import written
from samples import (EITHER, FULL, NO_TEXTS, PLAIN, PRIMES, RING, SMALL, label_slowly, least_symbols, made_row,
                     made_tables, read_slowly, with_changed)

FORMS = ["table", "drop", "show", "write", "read", "apart", "label", "mend"]
TWENTY = "9" * 20
# Words that are no names: of no or of nine letters, or with other signs.
NO_NAMES = ["", "abcdefghi", "a" * 9, "A", "aB", "a1", "1", "0", "a-", "-", "_", "a_b", "a;b", ";", "a\n", "\na",
            "a\nb", "a.", "a\tb", "~", "a'"]
# Words that are no numbers: with a nought or another sign ahead, of twenty-one figures, or with other signs.
NO_NUMBERS = ["", "00", "01", "007", "+1", "-1", "+0", "-0", "--", "1-", "1.0", "1e1", "1_0", "x", "a", "0x1", "one",
              "1;", ";", "1\n", "\n1", "1\n2", "\t1", "None", "9" * 21, "1" + "0" * 20, "0" * 20, "0" + TWENTY]
NAME = "([a-z]{1,8})"
NUMBER = "(?:0|[1-9][0-9]{0,19})"
PRIME = f"({'|'.join(map(str, PRIMES))})"
PATTERNS = {
    "show": f"show {NAME}",
    "write": f"write {NAME} (.*)",
    "read": f"read {NAME}((?: {NUMBER})*)",
    "apart": f"apart {NAME} {NAME}",
    "label": f"label {PRIME}((?: {NUMBER})*)",
    "mend": f"mend {PRIME}((?: (?:{NUMBER}|-))*)",
}
NO_PRIMES = [str(number) for number in range(60) if number not in PRIMES] + [TWENTY, "53", "97", "10007"]


def in_one_row(table_text):
    return table_text.replace("\n", ";")


def row_of(answer):
    return [] if answer == "none" else [int(word) for word in answer.split(" ")]


def words_for(row):
    return "".join(f" {'-' if thing is None else thing}" for thing in row)


class DeskCase(unittest.TestCase):
    def setUp(self):
        self.desk = Desk()
        self.standing = {"plain": PLAIN, "full": FULL, "ring": RING, "a": EITHER}
        for name in self.standing:
            self.assertEqual(self.desk.say(f"table {name} {self.standing[name]}"), "ok")

    def check_answer(self, row, answer):
        told = self.desk.say(row)
        self.assertEqual(told, answer, row)
        self.assertIs(type(told), str)

    def check_standing(self):
        for name in self.standing:
            self.check_answer(f"show {name}", in_one_row(self.standing[name]))

    def check_refused(self, row, kind, /, **fields):
        with self.subTest(row=row):
            with self.assertRaises(LabelError) as caught:
                self.desk.say(row)
            self.assertIs(type(caught.exception), kind)
            for field in fields:
                self.assertEqual(getattr(caught.exception, field), fields[field])
                self.assertIs(type(getattr(caught.exception, field)), type(fields[field]))
            self.check_standing()

    def check_no_form(self, row):
        self.check_refused(row, NoForm)
        # Nor does it matter whether any table stands.
        with self.subTest(row=row, desk="new"):
            with self.assertRaises(NoForm):
                Desk().say(row)


class Tables(DeskCase):
    def test_told_and_shown(self):
        for number, text in enumerate(SMALL + [FULL]):
            name = "abcdefghijk"[number]
            self.check_answer(f"table {name} {text}", "ok")
            self.check_answer(f"show {name}", in_one_row(text))
            self.check_answer(f"table {name} {in_one_row(text)}", "ok")
            self.check_answer(f"show {name}", in_one_row(text))

    def test_semicolons_and_line_feeds_in_one_text(self):
        rows = FULL.split("\n")
        for signs in ("\n;\n;", ";\n;\n", ";;\n\n", "\n\n;;", ";\n\n;", ";;;\n", "\n;;;"):
            text = rows[0] + "".join(sign + row for sign, row in zip(signs, rows[1:]))
            self.check_answer(f"table mixed {text}", "ok")
            self.check_answer("show mixed", in_one_row(FULL))
            self.check_answer("apart mixed full", "alike")

    def test_many_tables(self):
        for text in made_tables(220, 40, "abc"):
            self.check_answer(f"table many {in_one_row(text)}", "ok")
            self.check_answer("show many", in_one_row(text))

    def test_by_hand(self):
        self.check_answer("table one symbols 5;a b lock1 shift1 -;c 7 lock0 lock1 a", "ok")
        self.check_answer("show one", "symbols 5;a b lock1 shift1 -;c 7 lock0 lock1 a")

    def test_name_told_twice(self):
        self.check_answer(f"table full {in_one_row(RING)}", "ok")
        self.check_answer("show full", in_one_row(RING))
        self.check_answer("apart full ring", "alike")
        self.check_answer("write full bac", "1 0 1 1 0 1 1 0")
        self.standing["full"] = RING
        self.check_standing()

    def test_each_name_stands_by_itself(self):
        names = ["b", "aa", "ab", "ba", "abcdefgh", "zzzzzzzz", "abcdefg", "table", "drop", "show", "write", "read",
                 "apart", "label", "mend", "none", "alike", "ok", "lock", "symbols"]
        texts = made_tables(221, len(names), "abc")
        for name, text in zip(names, texts):
            self.check_answer(f"table {name} {in_one_row(text)}", "ok")
        for name, text in zip(names, texts):
            self.check_answer(f"show {name}", in_one_row(text))
        self.check_standing()

    def test_each_letter_and_each_number_of_letters(self):
        for letter in "abcdefghijklmnopqrstuvwxyz":
            self.check_refused(f"show {letter * 2}", NoName)
            self.check_answer(f"table {letter * 2} {PLAIN}", "ok")
        for count in range(1, 9):
            self.check_answer(f"table {'x' * count} {PLAIN}", "ok")
            self.check_answer(f"show {'x' * count}", in_one_row(PLAIN))

    def test_dropped(self):
        self.check_answer("drop full", "ok")
        del self.standing["full"]
        for row in ("show full", "drop full", "write full a", "write full ", "read full", "read full 0",
                    "apart full full", "apart full a", "apart a full"):
            self.check_refused(row, NoName)
        self.check_answer(f"table full {PLAIN}", "ok")
        self.check_answer("show full", in_one_row(PLAIN))
        self.check_answer("drop full", "ok")
        self.check_refused("drop full", NoName)

    def test_two_desks_by_themselves(self):
        other = Desk()
        for row in ("show plain", "drop plain", "read plain 0", "write plain a", "apart plain plain"):
            with self.assertRaises(NoName):
                other.say(row)
        self.assertEqual(other.say(f"table plain {RING}"), "ok")
        self.assertEqual(other.say(f"table own {RING}"), "ok")
        self.check_standing()
        self.check_refused("show own", NoName)
        self.check_answer("drop ring", "ok")
        self.assertEqual(other.say("show plain"), in_one_row(RING))
        self.assertEqual(other.say("drop plain"), "ok")
        self.check_answer("show plain", in_one_row(PLAIN))

    def test_no_table(self):
        refused = [("", 0), ("x", 0), ("symbols 6", 0), (" symbols 5;a b c d e", 0), ("symbols  5;a b c d e", 0),
                   ("symbols 5", 1), ("symbols 5;", 1), ("symbols 5;a b c d", 1), ("symbols 5;a b c d e f", 1),
                   ("symbols 5;a b c d lock1", 1), ("symbols 5;a b c d e;", 2), ("symbols 5;a b c d e\n", 2),
                   ("symbols 5;a b c d e;a b c d E", 2), ("symbols 5;a b c d e ", 1), ("symbols 5;a b  c d e", 1),
                   ("symbols 5;;a b c d e", 1), ("symbols 5\n;a b c d e", 1), ("\nsymbols 5;a b c d e", 0),
                   ("symbols 5" + ";a b c d e" * 5, 5), ("symbols 5" + "\na b c d e" * 4 + ";", 5),
                   ("symbols 5;a b c d e;a b c d e;a b c - shift3", 3), ("symbols 5;a;b;c;d;e", 5)]
        for text, row in refused:
            self.check_refused(f"table full {text}", NoTable, row=row)
            self.check_refused(f"table other {text}", NoTable, row=row)
            self.check_refused("show other", NoName)

    def test_text_of_a_table_may_hold_any_signs(self):
        # Whatever stands behind the second blank, the row is of the form.
        for text in (" ", "  ", "a  b", " a", "- -", "NAME", "full 1 2", "~", "symbols 5;a b c d ~"):
            self.check_refused(f"table full {text}", NoTable)


class Rows(DeskCase):
    def test_written_by_hand(self):
        self.check_answer("write ring bac", "1 0 1 1 0 1 1 0")
        self.check_answer("write a aba", "0 2 0 0")
        self.check_answer("write a bcb", "1 0 1 0")
        self.assertIn(self.desk.say("write a b"), ("1 0", "2 0"))
        self.check_answer("write ring a", "0")

    def test_empty_text_is_written_as_none(self):
        for name in self.standing:
            self.check_answer(f"write {name} ", "none")

    def test_written_and_read(self):
        chance = random.Random(222)
        for name in self.standing:
            text = self.standing[name]
            for turn in range(60):
                signs = read_slowly(text, made_row(chance, text, chance.randint(0, 20)))
                answer = self.desk.say(f"write {name} {signs}")
                row = row_of(answer)
                self.assertEqual(answer, " ".join(map(str, row)) or "none")
                self.assertEqual(len(row), least_symbols(text, signs))
                self.assertEqual(row, written(Table(text), signs))
                self.check_answer(f"read {name}{words_for(row)}", signs)

    def test_long_texts(self):
        self.check_answer("write ring " + "a" * 300, " ".join(["0"] * 300))
        self.check_answer("read ring" + " 0" * 1500, "a" * 1500)

    def test_read_without_numbers(self):
        for name in self.standing:
            self.check_answer(f"read {name}", "")

    def test_read_where_no_sign_is_given(self):
        self.check_answer("read ring 1", "")
        self.check_answer("read ring 1 1 1", "")

    def test_read_by_hand(self):
        self.check_answer("read plain 0 1 2 0 1 4", "abc7a")
        self.check_answer("read plain 3 1 0", "7a")
        self.check_answer("table big symbols 47;" + " ".join(["-"] * 46 + ["z"]), "ok")
        self.check_answer("read big 46 46", "zz")
        self.check_answer("write big zzz", "46 46 46")

    def test_no_writing(self):
        for text, number in (("x", 0), ("abx", 2), ("ab x", 2), (" ab", 0), (" ", 0), ("  ", 0), ("ab ", 2), ("a b", 1),
                             ("a;b", 1), ("a\nb", 1), (";", 0), ("A", 0), ("aB", 1), ("-", 0), ("lock1", 0)):
            self.check_refused(f"write plain {text}", NoWriting, number=number)
        self.check_answer("table poor symbols 5;a lock1 - - -;b - - - -", "ok")
        self.check_refused("write poor aaba", NoWriting, number=3)

    def test_no_symbol(self):
        for numbers, number in (("5", 0), ("0 5", 1), ("0 0 6 7", 2), (TWENTY, 0), ("0 1 10000000000000000000", 2),
                                ("0 47", 1), ("4 5", 1), ("3 5", 1)):
            self.check_refused(f"read plain {numbers}", NoSymbol, number=number)

    def test_no_reading(self):
        for numbers, number in (("4", 0), ("0 4", 1), ("0 3", 2), ("3", 1), ("3 2", 1), ("2 2 0 4 0", 3)):
            self.check_refused(f"read plain {numbers}", NoReading, number=number)


class Apart(DeskCase):
    def test_alike(self):
        for name in self.standing:
            self.check_answer(f"apart {name} {name}", "alike")
        self.check_answer(f"table again {FULL}", "ok")
        self.check_answer("apart again full", "alike")
        self.check_answer(f"table more {RING};a b c d e", "ok")
        self.check_answer("apart more ring", "alike")

    def test_rows(self):
        self.check_answer("table other symbols 5;a lock1 - - -;b lock2 - - -;z lock0 - - -", "ok")
        self.check_answer("apart other ring", "1 1 0")
        self.check_answer("apart ring other", "1 1 0")
        self.check_answer("table wide symbols 7;a lock1 - - - - -;b lock2 - - - - -;c lock0 - - - - a", "ok")
        self.check_answer("apart wide ring", "1 1 6")

    def test_of_any_tables(self):
        texts = made_tables(223, 30, "ab")
        for one, other in zip(texts, texts[1:]):
            self.desk.say(f"table one {one}")
            self.desk.say(f"table other {other}")
            row = apart(Table(one), Table(other))
            self.check_answer("apart one other", "alike" if row is None else " ".join(map(str, row)))

    def test_no_name(self):
        for row in ("apart full nosuch", "apart nosuch full", "apart nosuch nosuch", "apart b c"):
            self.check_refused(row, NoName)


class Labels(DeskCase):
    def test_by_hand(self):
        self.check_answer("label 5 0 2 0", "0 2 0 4 4")
        self.check_answer("label 5", "0 0")
        self.check_answer("label 47", "0 0")
        self.check_answer("mend 5 0 2 3 4 4", "0 2 0 4 4")
        self.check_answer("mend 5 - 2 0 - 4", "0 2 0 4 4")
        self.check_answer("mend 5 0 2 0 4 4", "0 2 0 4 4")
        self.check_answer("mend 5 - -", "0 0")
        self.check_answer("mend 5 0 -", "0 0")
        self.check_answer("mend 47 0 0", "0 0")

    def test_of_each_prime(self):
        chance = random.Random(224)
        for prime in PRIMES:
            for length in sorted({0, 1, 2, prime - 3, prime - 2}):
                row = [chance.randrange(prime) for place in range(length)]
                label = label_slowly(prime, row)
                answer = " ".join(map(str, label))
                self.check_answer(f"label {prime}{words_for(row)}", answer)
                self.check_answer(f"mend {prime}{words_for(label)}", answer)
                one, other = chance.sample(range(length + 2), 2)
                self.check_answer(f"mend {prime}{words_for(with_changed(label, {one: None}))}", answer)
                self.check_answer(f"mend {prime}{words_for(with_changed(label, {one: None, other: None}))}", answer)
                spoilt = with_changed(label, {one: (label[one] + 1) % prime})
                self.check_answer(f"mend {prime}{words_for(spoilt)}", answer)

    def test_no_symbol(self):
        for form in ("label", "mend"):
            for numbers, number in (("5", 0), ("0 5", 1), ("4 0 6 7", 2), (TWENTY, 0), ("0 10000000000000000000", 1),
                                    ("0 0 0 0 0 0 0 0 9", 8)):
                self.check_refused(f"{form} 5 {numbers}", NoSymbol, number=number)
            for prime in PRIMES:
                self.check_refused(f"{form} {prime} {prime - 1} {prime}", NoSymbol, number=1)
        self.check_refused("mend 5 - - - 5", NoSymbol, number=3)

    def test_too_long(self):
        for prime in PRIMES:
            self.check_refused(f"label {prime}" + " 1" * (prime - 1), TooLong, length=prime - 1)
            self.check_refused(f"mend {prime}" + " 1" * (prime + 1), TooLong, length=prime + 1)
            self.check_refused(f"mend {prime}" + " -" * (prime + 1), TooLong, length=prime + 1)
            self.check_refused(f"mend {prime}", TooLong, length=0)
            self.check_refused(f"mend {prime} 0", TooLong, length=1)
            self.check_refused(f"mend {prime} -", TooLong, length=1)

    def test_spoilt(self):
        for row in ("mend 5 - - -", "mend 5 - - - 0 0", "mend 5 1 4", "mend 5 2 0 0 4 4", "mend 5 - 1",
                    "mend 7 - 2 0 0"):
            self.check_refused(row, Spoilt)

    def test_names_are_no_matter(self):
        self.assertEqual(Desk().say("label 5 0 2 0"), "0 2 0 4 4")
        self.assertEqual(Desk().say("mend 5 0 - 0 4 4"), "0 2 0 4 4")
        self.check_standing()


class OtherForms(DeskCase):
    def test_what_is_no_text(self):
        for thing in NO_TEXTS + [b"show full", ["show full"], ["show", "full"], ("show", "full"), {"show": "full"}]:
            self.check_no_form(thing)

    def test_unknown_first_word(self):
        for row in ("", " ", "  ", "x", "tables full", "TABLE", "Show full", "shows full", "sho full", "full", "5",
                    " show full", "  show full", "\nshow full", "show\nfull", "show;full", "show\tfull", "-", "none",
                    "say full", "write\n full a", "ok", "alike", "help", "roll 7 1", "part 5", "0", "marks full a"):
            self.check_no_form(row)

    def test_first_word_alone(self):
        for form in FORMS:
            self.check_no_form(form)
            self.check_no_form(form + " ")
            self.check_no_form(form + "  ")
            self.check_no_form(form + "   ")
            self.check_no_form(form + "\n")

    def test_too_few_words(self):
        for row in ("table full", "write full", "apart full"):
            self.check_no_form(row)

    def test_too_many_words(self):
        for row in ("drop full full", "show full full", "drop full 1", "show full 1", "apart full full full",
                    "apart full plain ring", "apart full plain 0"):
            self.check_no_form(row)

    def test_two_blanks_or_one_at_the_end(self):
        for row in ("drop full ", "drop  full", "show full ", "show  full", "show full  ", "apart full plain ",
                    "apart full  plain", "apart  full plain", "apart full ", "read full ", "read  full", "read full  0",
                    "read full 0 ", "read full 0  0", "read full  ", "label 5 ", "label  5", "label 5  0", "label 5 0 ",
                    "label 5 0  0", "mend 5 ", "mend  5", "mend 5  0 0", "mend 5 0 0 ", "mend 5 0  0", "mend 5 -  -",
                    "table  " + PLAIN, "table  full " + PLAIN, "write  full a", "write  a", "write  "):
            self.check_no_form(row)

    def test_words_that_are_no_names(self):
        for name in NO_NAMES:
            for row in (f"table {name} {PLAIN}", f"drop {name}", f"show {name}", f"write {name} a", f"write {name} ",
                        f"read {name}", f"read {name} 0", f"apart {name} full", f"apart full {name}",
                        f"apart {name} {name}", f"table {name} x", f"table {name} "):
                self.check_no_form(row)

    def test_words_that_are_no_numbers(self):
        for number in NO_NUMBERS:
            for row in (f"read full {number}", f"read full 0 {number}", f"read full {number} 0", f"label 5 {number}",
                        f"label 5 0 {number}", f"mend 5 {number}", f"mend 5 0 0 {number}", f"mend 5 {number} -",
                        f"label {number}", f"label {number} 0", f"mend {number}", f"mend {number} 0 0"):
                self.check_no_form(row)
        # Unreadable is a word in what is mended alone.
        for row in ("read full -", "read full 0 - 0", "label 5 -", "label 5 0 -", "label -", "mend -", "mend - 0 0"):
            self.check_no_form(row)

    def test_numbers_that_are_no_primes(self):
        for number in NO_PRIMES:
            for row in (f"label {number}", f"label {number} 0", f"label {number} 0 1 2", f"mend {number} 0 0",
                        f"mend {number}", f"mend {number} - -"):
                self.check_no_form(row)
        for row in ("label 05 0", "label 07 0", "mend 05 0 0", "mend +5 0 0", "label 5.0 0", "label five 0",
                    "mend full"):
            self.check_no_form(row)

    def test_numbers_of_twenty_figures(self):
        for number in (TWENTY, "1" + "0" * 19):
            self.check_refused(f"read full {number}", NoSymbol, number=0)
            self.check_refused(f"label 5 {number}", NoSymbol, number=0)
            self.check_refused(f"mend 5 0 0 {number}", NoSymbol, number=2)
            self.check_no_form(f"read full {number}0")
            self.check_no_form(f"label 5 {number}0")
            self.check_no_form(f"mend 5 0 0 {number}0")


class WhatIsToldFirst(DeskCase):
    def test_no_form_is_ahead_of_no_name(self):
        for row in ("read nosuch x", "read nosuch 0 01", "read nosuch ", "apart nosuch x1", "apart nosuch",
                    "show nosuch ", "drop nosuch nosuch", "write nosuch", "table nosuch", "apart nosuch full ring",
                    "apart nosuch FULL"):
            self.check_no_form(row)

    def test_no_form_is_ahead_of_all_others(self):
        for row in ("read full 99 x", "read full 5 -", "read plain 4 00", "label 5 5 x", "label 5 9 ", "label 6 9",
                    "label 5 0 0 0 0 -", "mend 5 9 --", "mend 5 - - - x", "mend 5 1 4 ", "mend 4 - - -",
                    "table FULL symbols 6", "table toolongname ", "write FULL x", "apart full x y"):
            self.check_no_form(row)

    def test_no_name_is_ahead_of_all_others(self):
        for row in ("read nosuch 99", "read nosuch " + TWENTY, "read nosuch 4 5", "write nosuch ~", "write nosuch A b",
                    "write nosuch ", "read nosuch", "show nosuch", "drop nosuch"):
            self.check_refused(row, NoName)
        for row in ("show a", "drop a", "read a", "write a ", "apart a a"):
            with self.assertRaises(NoName):
                Desk().say(row)

    def test_no_symbol_is_ahead_of_the_others(self):
        self.check_refused("read plain 4 0 5", NoSymbol, number=2)
        self.check_refused("read plain 3 5", NoSymbol, number=1)
        self.check_refused("label 5 0 0 0 0 0 0 5", NoSymbol, number=6)
        self.check_refused("mend 5 - - - - - - 5", NoSymbol, number=6)
        self.check_refused("mend 5 5", NoSymbol, number=0)

    def test_too_long_is_ahead_of_spoilt(self):
        self.check_refused("mend 5 - - - - - -", TooLong, length=6)
        self.check_refused("mend 5 1 1 1 1 1 2", TooLong, length=6)

    def test_what_is_refused_changes_nothing(self):
        # The name told in a refused row stands as it stood, or doesn't stand.
        self.check_refused("table full symbols 5", NoTable, row=1)
        self.check_refused("table new symbols 5", NoTable, row=1)
        self.check_refused("show new", NoName)
        self.check_refused("drop full ", NoForm)
        self.check_refused("drop new", NoName)
        self.check_refused("show new", NoName)
        self.check_answer("write ring bac", "1 0 1 1 0 1 1 0")


class LikeTheModules(DeskCase):
    """Any rows, and the forms, written as patterns, with what the other modules answer."""

    def expected(self, row):
        form = row.split(" ")[0]
        match = re.fullmatch(PATTERNS.get(form, "no form"), row, re.DOTALL)
        if not match:
            return NoForm
        if form in ("label", "mend"):
            things = [None if word == "-" else int(word) for word in match[2].split()]
            return (labelled if form == "label" else mended)(int(match[1]), things)
        names = match.groups() if form == "apart" else match.groups()[:1]
        if any(name not in self.standing for name in names):
            return NoName
        tables = [Table(self.standing[name]) for name in names]
        if form == "show":
            return in_one_row(self.standing[match[1]])
        if form == "write":
            return written(tables[0], match[2])
        if form == "read":
            return tables[0].read([int(word) for word in match[2].split()])
        return "alike" if apart(*tables) is None else apart(*tables)

    def check_like_expected(self, row):
        try:
            expected = self.expected(row)
        except LabelError as refusal:
            expected = type(refusal)
            self.check_refused(row, expected, **vars(refusal))
            return expected
        if isinstance(expected, type):
            self.check_refused(row, expected)
            return expected
        self.check_answer(row, expected if type(expected) is str else " ".join(map(str, expected)) or "none")
        return str

    def test_any_rows_of_words(self):
        chance = random.Random(225)
        tails = {
            "show": [["full", "plain", "nosuch", "Full", "full "]],
            "write": [["full", "plain", "nosuch"], ["", "a", "ba", "abc", "x", " a", "a~", "cab"]],
            "read": [["full", "plain", "ring", "nosuch"]] + [["0", "1", "2", "3", "4", "5", TWENTY]] * 4,
            "apart": [["full", "plain", "ring", "nosuch"]] * 2,
            "label": [["5", "7", "6"]] + [["0", "1", "2", "3", "4", "5"]] * 5,
            "mend": [["5", "7", "05"]] + [["0", "1", "2", "3", "4", "-", "-", "9"]] * 6,
        }
        kinds = {}
        for turn in range(4000):
            form = chance.choice(sorted(tails))
            words = [form] + [chance.choice(words) for words in tails[form]]
            words = words[:chance.randint(2, len(words))]
            if chance.random() < 0.1:
                words.insert(chance.randint(0, len(words)), chance.choice(["", "0", "x", "full", "-", "00"]))
            kind = self.check_like_expected(" ".join(words))
            kinds[kind] = kinds.get(kind, 0) + 1
        for kind in (str, NoForm, NoName, NoSymbol, NoReading, NoWriting, TooLong, Spoilt):
            self.assertGreater(kinds.get(kind, 0), 20)


if __name__ == "__main__":
    unittest.main()
