import random
import unittest

from barlabel.errors import NoFount, NoLabel, NoSymbol
from barlabel.founts import Fount
from samples import (BROAD, LEAST, LONG, MOST, NARROW, NO_NUMBERS, NO_SYMBOLS, PRIMES, lists_of_widths, made_founts,
                     primes_for)

FOUNTS = [NARROW, BROAD, LONG, LEAST, MOST] + made_founts(12)
SUITED = [made for made in FOUNTS if primes_for(*made[:2])]


class Founts(unittest.TestCase):
    def check_refused(self, parts, total, start, stop):
        with self.subTest(parts=parts, total=total, start=start, stop=stop):
            with self.assertRaises(NoFount):
                Fount(parts, total, start, stop)

    def test_what_is_told_of_it(self):
        for parts, total, start, stop in FOUNTS:
            fount = Fount(parts, total, list(start), list(stop))
            self.assertEqual((fount.parts(), fount.total()), (parts, total))
            self.assertEqual((fount.start(), fount.stop()), (start, stop))
            self.assertIs(type(fount.start()), list)
            self.assertIs(type(fount.stop()), list)

    def test_other_parts(self):
        for parts in (-6, -4, 0, 1, 2, 3, 5, 7, 8, 12, 10 ** 19):
            count = min(max(parts, 0), 12)
            self.check_refused(parts, 2 * count, [2] * count, [2] * count + [1])
            self.check_refused(parts, 7, NARROW[2], NARROW[3])
            self.check_refused(parts, 11, LONG[2], LONG[3])

    def test_parts_of_the_other_number(self):
        self.check_refused(6, *NARROW[1:])
        self.check_refused(4, *LONG[1:])
        self.check_refused(4, 7, LONG[2], LONG[3])

    def test_other_totals(self):
        for parts, start, stop in ((4, NARROW[2], NARROW[3]), (6, LONG[2], LONG[3])):
            for total in list(range(-2, 30)) + [10 ** 19, -10 ** 19]:
                if total != sum(start):
                    self.check_refused(parts, total, start, stop)

    def test_totals_that_no_widths_come_to(self):
        self.check_refused(4, 3, [1, 1, 1, 0], [1, 1, 0, 1, 2])
        self.check_refused(4, 17, [4, 4, 4, 5], [4, 4, 4, 5, 1])
        self.check_refused(6, 5, [1, 1, 1, 1, 1, 0], [1, 1, 1, 1, 0, 1, 2])
        self.check_refused(6, 25, [4, 4, 4, 4, 4, 5], [4, 4, 4, 4, 4, 5, 1])

    def test_start_or_stop_does_not_come_to_the_total(self):
        for start in ([1, 2, 3, 2], [1, 2, 2, 1], [1, 1, 1, 1], [4, 4, 4, 4]):
            self.check_refused(4, 7, start, NARROW[3])
        for stop in ([2, 1, 1, 4, 2], [2, 1, 1, 2, 2], [1, 1, 1, 1, 3], [4, 4, 4, 4, 4]):
            self.check_refused(4, 7, NARROW[2], stop)

    def test_the_whole_stop_comes_to_the_total(self):
        self.check_refused(4, 7, NARROW[2], [2, 1, 1, 1, 2])
        self.check_refused(4, 9, NARROW[2], NARROW[3])

    def test_both_come_to_another_total(self):
        self.check_refused(4, 8, NARROW[2], NARROW[3])
        self.check_refused(6, 12, LONG[2], LONG[3])

    def test_other_lengths(self):
        for start in ([], [4], [3, 3, 1], [2, 2, 3], [1, 2, 3, 1, 1], [1, 2, 2, 1, 1], [1, 1, 1, 1, 1, 2]):
            self.check_refused(4, 7, start, NARROW[3])
        for stop in ([], [4], [3, 3, 1], [2, 1, 1, 3], [2, 1, 1, 3, 2, 1], [1, 1, 1, 1, 1, 2, 1]):
            self.check_refused(4, 7, NARROW[2], stop)

    def test_widths_out_of_bounds(self):
        # The sums are right, but a width is too small or too great.
        for widths in ([0, 3, 3, 1], [3, 3, 1, 0], [5, 1, 1, 0], [1, -1, 4, 3], [-2, 3, 3, 3], [1, 1, 5, 0],
                       [10 ** 19, -10 ** 19, 3, 4]):
            self.assertEqual(sum(widths), 7)
            self.check_refused(4, 7, widths, NARROW[3])
            self.check_refused(4, 7, NARROW[2], widths + [2])
        for widths in ([5, 1, 1, 1], [1, 5, 1, 1], [1, 1, 1, 5]):
            self.check_refused(4, 8, widths, [2, 2, 2, 2, 1])
            self.check_refused(4, 8, [2, 2, 2, 2], widths + [1])
        for last in (-1, 0, 5, 6, 10 ** 19):
            self.check_refused(4, 7, NARROW[2], [2, 1, 1, 3, last])

    def test_last_width_of_the_stop(self):
        for last in (1, 2, 3, 4):
            self.assertEqual(Fount(4, 7, [1, 2, 3, 1], [2, 1, 1, 3, last]).stop(), [2, 1, 1, 3, last])

    def test_things_among_the_widths_that_are_none(self):
        for thing in NO_NUMBERS + [1.0, "1", "2"]:
            for number in range(4):
                start = list(NARROW[2])
                start[number] = thing
                self.check_refused(4, 7, start, NARROW[3])
            for number in range(5):
                stop = list(NARROW[3])
                stop[number] = thing
                self.check_refused(4, 7, NARROW[2], stop)

    def test_truths_and_others_that_are_as_great(self):
        self.check_refused(4, 7, [True, 2, 3, 1], [2, 1, 1, 3, 2])
        self.check_refused(4, 7, [1, 2, 3, True], [2, 1, 1, 3, 2])
        self.check_refused(4, 7, [1.0, 2, 3, 1], [2, 1, 1, 3, 2])
        self.check_refused(4, 7, [1, 2, 3, 1], [2, True, 1, 3, 2])
        self.check_refused(4, 7, [1, 2, 3, 1], [2, 1, 1, 3, True])
        self.check_refused(4, 7, [1, 2, 3, 1], [2, 1, 1, 3, 2.0])
        self.check_refused(4.0, 7, [1, 2, 3, 1], [2, 1, 1, 3, 2])
        self.check_refused(4, 7.0, [1, 2, 3, 1], [2, 1, 1, 3, 2])

    def test_things_of_other_kinds(self):
        for thing in NO_NUMBERS + ["1231", "21132", (1, 2, 3, 1), (2, 1, 1, 3, 2), b"1231", range(1, 5)]:
            self.check_refused(thing, 7, NARROW[2], NARROW[3])
            self.check_refused(4, thing, NARROW[2], NARROW[3])
            self.check_refused(4, 7, thing, NARROW[3])
            self.check_refused(4, 7, NARROW[2], thing)
            self.check_refused(thing, thing, thing, thing)
        for number in (0, 1, 4, 5, 7):
            self.check_refused(4, 7, number, NARROW[3])
            self.check_refused(4, 7, NARROW[2], number)

    def test_stop_turned_about_begins_with_the_start(self):
        self.check_refused(4, 7, [1, 2, 3, 1], [1, 1, 3, 2, 1])
        self.check_refused(4, 4, [1, 1, 1, 1], [1, 1, 1, 1, 1])
        self.check_refused(4, 16, [4, 4, 4, 4], [4, 4, 4, 4, 4])
        self.check_refused(6, 11, [2, 1, 1, 2, 1, 4], [2, 4, 1, 2, 1, 1, 2])
        for parts, total in ((4, 7), (4, 10), (6, 9)):
            for start in lists_of_widths(parts, total):
                stop = [start[0]] + start[::-1]
                self.assertEqual(sum(stop[:parts]), total)
                self.check_refused(parts, total, start, stop)

    def test_stop_that_begins_or_ends_with_the_start(self):
        self.assertEqual(Fount(4, 7, [1, 2, 3, 1], [1, 2, 3, 1, 2]).stop(), [1, 2, 3, 1, 2])
        self.assertEqual(Fount(4, 7, [2, 3, 1, 1], [1, 2, 3, 1, 1]).stop(), [1, 2, 3, 1, 1])
        self.assertEqual(Fount(4, 7, [1, 2, 3, 1], [1, 3, 2, 1, 4]).stop(), [1, 3, 2, 1, 4])

    def test_patterns_by_hand(self):
        self.assertEqual(Fount(*LEAST).patterns(), [[1, 1, 1, 1]])
        self.assertEqual(Fount(*MOST).patterns(), [[4, 4, 4, 4, 4, 4]])
        self.assertEqual(Fount(4, 5, [1, 1, 1, 2], [1, 1, 1, 2, 1]).patterns(),
                         [[1, 1, 1, 2], [1, 1, 2, 1], [1, 2, 1, 1], [2, 1, 1, 1]])
        found = Fount(*NARROW).patterns()
        self.assertEqual(found[:5], [[1, 1, 1, 4], [1, 1, 2, 3], [1, 1, 3, 2], [1, 1, 4, 1], [1, 2, 1, 3]])
        self.assertEqual((len(found), found[-1]), (20, [4, 1, 1, 1]))
        self.assertEqual([len(Fount(*made).patterns()) for made in (BROAD, LONG)], [44, 216])

    def test_patterns_are_all_lists_in_their_order(self):
        for made in FOUNTS:
            found = Fount(*made).patterns()
            self.assertEqual(found, lists_of_widths(*made[:2]))
            self.assertEqual(found, sorted(found))
            self.assertIs(type(found), list)
            for pattern in found:
                self.assertIs(type(pattern), list)

    def test_lists_are_the_askers_own(self):
        fount = Fount(*NARROW)
        told = [fount.start(), fount.stop(), fount.patterns()]
        told[0][0] = 4
        told[1].append(9)
        told[2][3].clear()
        told[2].pop()
        told[2][0][0] = 2
        printed = fount.printed([0, 3])
        printed[0] = 7
        printed.append(1)
        self.check_is_narrow(fount)
        self.assertEqual(told[0], [4, 2, 3, 1])

    def check_is_narrow(self, fount):
        self.assertEqual(fount.start(), [1, 2, 3, 1])
        self.assertEqual(fount.stop(), [2, 1, 1, 3, 2])
        self.assertEqual(fount.patterns(), lists_of_widths(4, 7))
        widths = [1, 2, 3, 1, 1, 1, 1, 4, 1, 1, 4, 1, 2, 1, 1, 3, 2]
        self.assertEqual(fount.printed([0, 3]), widths)
        self.assertEqual(fount.looked(5, widths), [0, 3])
        self.assertEqual((fount.parts(), fount.total()), (4, 7))

    def test_lists_handed_in_are_kept_as_copies(self):
        start, stop = [1, 2, 3, 1], [2, 1, 1, 3, 2]
        fount = Fount(4, 7, start, stop)
        self.assertEqual((start, stop), ([1, 2, 3, 1], [2, 1, 1, 3, 2]))
        start[0] = 4
        stop.clear()
        self.check_is_narrow(fount)

    def test_what_was_told_stays(self):
        fount = Fount(*NARROW)
        told = [fount.start(), fount.stop(), fount.patterns(), fount.printed([1]), fount.looked(5, fount.printed([1]))]
        Fount(*BROAD).printed([3])
        fount.start().clear()
        fount.stop().clear()
        fount.patterns()[0].clear()
        fount.printed([1]).clear()
        fount.looked(7, fount.printed([2, 3])).clear()
        self.assertEqual(told, [[1, 2, 3, 1], [2, 1, 1, 3, 2], lists_of_widths(4, 7),
                                [1, 2, 3, 1, 1, 1, 2, 3, 2, 1, 1, 3, 2], [1]])

    def test_founts_do_not_share_anything(self):
        one, other = Fount(*NARROW), Fount(4, 7, [4, 1, 1, 1], [1, 1, 1, 4, 1])
        self.assertEqual(other.start(), [4, 1, 1, 1])
        self.check_is_narrow(one)
        self.assertEqual(other.printed([]), [4, 1, 1, 1, 1, 1, 1, 4, 1])


class Printed(unittest.TestCase):
    def check_refused(self, made, row, number):
        fount = Fount(*made)
        handed = list(row)
        with self.subTest(made=made, row=row):
            with self.assertRaises(NoSymbol) as caught:
                fount.printed(handed)
            self.assertEqual(caught.exception.number, number)
            self.assertIs(type(caught.exception.number), int)
            self.assertEqual([id(thing) for thing in handed], [id(thing) for thing in row])

    def test_by_hand(self):
        fount = Fount(*NARROW)
        self.assertEqual(fount.printed([]), [1, 2, 3, 1, 2, 1, 1, 3, 2])
        self.assertEqual(fount.printed([19]), [1, 2, 3, 1, 4, 1, 1, 1, 2, 1, 1, 3, 2])
        self.assertEqual(fount.printed([4, 0]), [1, 2, 3, 1, 1, 2, 1, 3, 1, 1, 1, 4, 2, 1, 1, 3, 2])

    def test_rows(self):
        chance = random.Random(13)
        for made in FOUNTS:
            fount = Fount(*made)
            lists = lists_of_widths(*made[:2])
            for length in (0, 1, 2, 5, 47):
                row = [chance.randrange(len(lists)) for place in range(length)]
                handed = list(row)
                widths = fount.printed(handed)
                self.assertEqual(handed, row)
                self.assertIs(type(widths), list)
                expected = list(made[2])
                for symbol in row:
                    expected += lists[symbol]
                self.assertEqual(widths, expected + made[3])
                self.assertEqual(len(widths) % 2, 1)

    def test_every_symbol(self):
        for made in (NARROW, BROAD, LONG):
            lists = lists_of_widths(*made[:2])
            self.assertEqual(Fount(*made).printed(list(range(len(lists)))), made[2] + sum(lists, []) + made[3])

    def test_long_row(self):
        widths = Fount(*LONG).printed([215] * 1500)
        self.assertEqual(widths, LONG[2] + [4, 3, 1, 1, 1, 1] * 1500 + LONG[3])

    def test_symbol_without_a_pattern(self):
        for made in FOUNTS:
            count = len(lists_of_widths(*made[:2]))
            for symbol in (count, count + 1, 10 ** 19):
                self.check_refused(made, [symbol], 0)
                self.check_refused(made, [0, count - 1, symbol, 0, symbol], 2)

    def test_things_that_are_no_symbols(self):
        for made in (NARROW, LONG, LEAST):
            # 48 is a symbol of a fount with more patterns.
            for thing in [thing for thing in NO_SYMBOLS if thing != 48]:
                self.check_refused(made, [thing], 0)
                self.check_refused(made, [0, 0, thing, 0], 2)
                self.check_refused(made, [0, thing, None, -1, 10 ** 19], 1)


class Looked(unittest.TestCase):
    def check_looked(self, made, prime, widths, row):
        fount = Fount(*made)
        for seen in (list(widths), list(reversed(widths))):
            handed = list(seen)
            found = fount.looked(prime, handed)
            self.assertEqual(found, row, (made, prime, seen))
            self.assertIs(type(found), list)
            self.assertEqual(handed, seen)

    def check_refused(self, made, prime, widths):
        fount = Fount(*made)
        for seen in (list(widths), list(reversed(widths))):
            handed = list(seen)
            with self.subTest(made=made, prime=prime, widths=seen):
                with self.assertRaises(NoLabel) as caught:
                    fount.looked(prime, handed)
                self.assertIsNone(caught.exception.number)
                self.assertEqual(handed, seen)

    def test_by_hand(self):
        self.check_looked(NARROW, 5, [1, 2, 3, 1, 2, 1, 1, 3, 2], [])
        self.check_looked(NARROW, 5, [1, 2, 3, 1, 1, 2, 1, 3, 2, 1, 1, 3, 2], [4])
        self.check_looked(NARROW, 5, [1, 2, 3, 1, 1, 2, 1, 3, 1, 1, 1, 4, 2, 1, 1, 3, 2], [4, 0])
        self.check_looked(NARROW, 5, [1, 2, 3, 1, 4, 1, 1, 1, 1, 1, 1, 4, 2, 1, 1, 3, 2], [None, 0])
        self.check_looked(NARROW, 19, [1, 2, 3, 1, 4, 1, 1, 1, 1, 1, 1, 4, 2, 1, 1, 3, 2], [None, 0])

    def test_printed_rows_from_either_end(self):
        chance = random.Random(14)
        for made in SUITED:
            for prime in primes_for(*made[:2]):
                for length in (0, 1, 2, prime):
                    row = [chance.randrange(prime) for place in range(length)]
                    self.check_looked(made, prime, Fount(*made).printed(row), row)

    def test_patterns_of_symbols_that_the_prime_has_not(self):
        for made in SUITED:
            count = len(lists_of_widths(*made[:2]))
            for prime in primes_for(*made[:2]):
                row = list(range(count))
                expected = [symbol if symbol < prime else None for symbol in row]
                self.check_looked(made, prime, Fount(*made).printed(row), expected)

    def test_stretches_that_are_no_patterns(self):
        for stretch in ([1, 1, 1, 1], [1, 1, 1, 3], [1, 1, 1, 5], [0, 1, 2, 4], [1, 1, 0, 5], [5, 1, 1, 0],
                        [-1, 4, 2, 2], [0, 0, 0, 0], [10 ** 19, 1, 1, 4], [-10 ** 19, 10 ** 19, 3, 4],
                        [4, 4, 4, 4]):
            for prime in (5, 7, 19):
                self.check_looked(NARROW, prime, NARROW[2] + stretch + NARROW[3], [None])
                widths = NARROW[2] + [1, 1, 1, 4] + stretch + [1, 2, 1, 3] + stretch + NARROW[3]
                self.check_looked(NARROW, prime, widths, [0, None, 4, None])

    def test_start_or_stop_among_the_symbols(self):
        lists = lists_of_widths(4, 7)
        start, stop = lists.index(NARROW[2]), lists.index(NARROW[3][:4])
        self.check_looked(NARROW, 19, NARROW[2] * 3 + NARROW[3][:4] + NARROW[3], [start, start, stop])

    def test_patterns_that_are_other_symbols_from_the_other_end(self):
        # [1, 1, 1, 4] is the first pattern, and the last one turned about.
        self.check_looked(NARROW, 5, [2, 3, 1, 1, 2, 4, 1, 1, 1, 1, 3, 2, 1], [0])
        self.check_looked(NARROW, 5, [2, 3, 1, 1, 2, 1, 1, 1, 4, 1, 3, 2, 1], [None])

    def test_wrong_numbers_of_widths(self):
        for made in (NARROW, BROAD, LONG):
            parts = made[0]
            for count in range(60):
                if count not in range(2 * parts + 1, 60, parts):
                    self.check_refused(made, 5, [1] * count)
                    self.check_refused(made, 5, (made[2] + [1] * count)[:count])
                    self.check_refused(made, 5, (made[2] + [1] * count)[:max(count - parts - 1, 0)] + made[3])

    def test_start_and_stop_with_too_few_or_too_many_widths_between(self):
        for made in (NARROW, BROAD, LONG):
            parts = made[0]
            for count in range(1, 4 * parts):
                if count % parts != 0:
                    self.check_refused(made, 5, made[2] + [1] * count + made[3])

    def test_start_and_stop_that_lie_one_over_the_other(self):
        # The start's last width is the stop's first one: too few widths.
        self.check_refused(NARROW, 5, [1, 2, 3, 1])
        self.check_refused(NARROW, 5, [2, 1, 1, 3, 2])
        self.check_refused((4, 7, [1, 1, 3, 2], [2, 1, 1, 3, 2]), 5, [1, 1, 3, 2, 1, 1, 3, 2])
        self.check_refused((4, 7, [2, 1, 1, 3], [2, 1, 1, 3, 2]), 5, [2, 1, 1, 3, 2])
        self.check_refused((4, 7, [2, 1, 1, 3], [2, 1, 1, 3, 4]), 5, [2, 1, 1, 3, 4])

    def test_neither_end(self):
        for made in SUITED:
            prime = primes_for(*made[:2])[-1]
            widths = Fount(*made).printed([0, 1, 2])
            ends = list(range(made[0])) + list(range(len(widths) - made[0] - 1, len(widths)))
            for number in ends:
                for width in (widths[number] - 1, widths[number] + 1, 0, -widths[number], 10 ** 19):
                    wrong = list(widths)
                    wrong[number] = width
                    self.check_refused(made, prime, wrong)

    def test_start_or_stop_at_both_ends_or_turned_about(self):
        start, stop = NARROW[2], NARROW[3]
        between = [1, 1, 1, 4, 1, 2, 1, 3]
        self.check_refused(NARROW, 5, start + between + [1] + start)
        self.check_refused(NARROW, 5, start + between + [1] + start[::-1])
        self.check_refused(NARROW, 5, stop + between + stop[:4])
        self.check_refused(NARROW, 5, stop + between[1:] + stop)
        self.check_refused(NARROW, 5, start + between + stop[::-1])
        self.check_refused(NARROW, 5, start[::-1] + between + stop)
        self.check_refused(NARROW, 5, stop + between + start)

    def test_no_widths(self):
        for made in SUITED:
            self.check_refused(made, 5, [])

    def test_each_suiting_prime_counts_its_own_symbols(self):
        widths = Fount(*LONG).printed([46, 43, 42, 5, 4])
        for prime in PRIMES:
            expected = [symbol if symbol < prime else None for symbol in (46, 43, 42, 5, 4)]
            self.check_looked(LONG, prime, widths, expected)

    def test_rows_are_the_askers_own(self):
        fount = Fount(*NARROW)
        widths = fount.printed([3, 2])
        row = fount.looked(5, widths)
        row.append(4)
        row[0] = None
        self.assertEqual(fount.looked(5, widths), [3, 2])
        again = fount.looked(5, widths)
        widths.clear()
        self.assertEqual(again, [3, 2])


if __name__ == "__main__":
    unittest.main()
