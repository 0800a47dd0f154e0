import itertools
import random
import unittest

from barlabel.checks import is_good, labelled, mended
from barlabel.errors import NoSymbol, Spoilt, TooLong
from samples import NO_SYMBOLS, PRIMES, sums, with_changed


def all_rows(prime, length):
    return [list(row) for row in itertools.product(range(prime), repeat=length)]


def some_rows(seed, prime, length, count=3):
    chance = random.Random(f"{seed} {prime} {length}")
    rows = [[0] * length, [prime - 1] * length]
    return rows + [[chance.randrange(prime) for place in range(length)] for turn in range(count)]


def filled_in_every_way(prime, things):
    gaps = [number for number, thing in enumerate(things) if thing is None]
    for symbols in itertools.product(range(prime), repeat=len(gaps)):
        yield with_changed(things, dict(zip(gaps, symbols)))


def mended_slowly(prime, things):
    """The row, or None where it is to be refused as spoilt; found by trying all symbols."""
    gaps = things.count(None)
    if gaps > 2:
        return None
    rows = [row for row in filled_in_every_way(prime, things) if sums(prime, row) == (0, 0)]
    if gaps == 0 and not rows:
        rows = [with_changed(things, {number: symbol}) for number in range(len(things)) for symbol in range(prime)]
        rows = [row for row in rows if sums(prime, row) == (0, 0)]
    assert len(rows) <= 1
    return rows[0] if rows else None


class Refusals(unittest.TestCase):
    def check_no_symbol(self, function, prime, row, number):
        handed = list(row)
        with self.subTest(function=function, prime=prime, row=row):
            with self.assertRaises(NoSymbol) as caught:
                function(prime, handed)
            self.assertEqual(caught.exception.number, number)
            self.assertIs(type(caught.exception.number), int)
            self.assertEqual([id(thing) for thing in handed], [id(thing) for thing in row])

    def check_too_long(self, function, prime, row):
        handed = list(row)
        with self.subTest(function=function, prime=prime, row=row):
            with self.assertRaises(TooLong) as caught:
                function(prime, handed)
            self.assertEqual(caught.exception.length, len(row))
            self.assertIs(type(caught.exception.length), int)
            self.assertEqual(handed, row)

    def check_spoilt(self, prime, things):
        handed = list(things)
        try:
            row = mended(prime, handed)
        except Spoilt:
            self.assertEqual(handed, things)
            return
        self.fail(f"{things} was mended to {row}")

    def check_mended(self, prime, things, label):
        handed = list(things)
        row = mended(prime, handed)
        self.assertEqual(row, label, things)
        self.assertEqual(handed, things)
        self.assertIs(type(row), list)
        self.assertIsNot(row, handed)


class Good(unittest.TestCase):
    def test_by_hand(self):
        for prime, row in [(5, [0, 0]), (5, [1, 3, 1]), (5, [2, 1, 2, 0, 0]), (5, [0, 1, 3, 1]), (5, [4, 4, 4, 4, 4]),
                           (7, [1, 5, 1]), (7, [1, 0, 4, 2]), (7, [3, 3, 3, 3, 3, 3, 3]), (11, [1, 9, 1, 0, 0]),
                           (47, [1, 45, 1]), (47, [0] * 46 + [0]), (47, [0] * 44 + [1, 45, 1]), (47, [46] * 47)]:
            self.assertIs(is_good(prime, row), True, (prime, row))

    def test_by_hand_not_good(self):
        # The sum alone is 0, the weighed sum alone is 0, neither is.
        for prime, row in [(5, [4, 1]), (5, [1, 4, 0]), (5, [1, 2]), (5, [0, 0, 0, 0, 1]), (5, [0, 1]), (5, [1, 1]),
                           (7, [1, 6]), (7, [1, 3]), (7, [0] * 6 + [1]), (47, [1, 46]), (47, [45, 1]),
                           (47, [0] * 46 + [1]), (47, [1] + [0] * 46), (47, [1] + [0] * 45 + [46])]:
            self.assertIs(is_good(prime, row), False, (prime, row))

    def test_every_row_of_a_small_prime(self):
        for prime, most in ((5, 5), (7, 4)):
            for length in range(2, most + 1):
                for row in all_rows(prime, length):
                    self.assertIs(is_good(prime, row), sums(prime, row) == (0, 0), (prime, row))

    def test_rows_of_each_length_of_each_prime(self):
        for prime in PRIMES:
            for length in range(2, prime + 1):
                for row in some_rows("good", prime, length):
                    self.assertIs(is_good(prime, row), sums(prime, row) == (0, 0), (prime, row))

    def test_one_of_both_sums_is_not_enough(self):
        for prime in PRIMES:
            for length in range(3, prime + 1):
                label = labelled(prime, [1] * (length - 2))
                # Lessened at one place and heightened at another, the sum stays.
                moved = with_changed(label, {0: (label[0] - 1) % prime, 1: (label[1] + 1) % prime})
                self.assertEqual(sums(prime, moved), (0, 1))
                self.assertIs(is_good(prime, moved), False)
                weighed = with_changed(label, {0: (label[0] - 2) % prime, 1: (label[1] + 1) % prime})
                self.assertEqual(sums(prime, weighed), (prime - 1, 0))
                self.assertIs(is_good(prime, weighed), False)

    def test_a_row_as_long_as_the_prime_has_a_place_that_weighs_nothing(self):
        for prime in PRIMES:
            row = [0] * prime
            row[-1] = 1
            self.assertEqual(sums(prime, row), (1, 0))
            self.assertIs(is_good(prime, row), False)

    def test_what_is_handed_in_stays(self):
        for row in ([0, 0], [1, 3, 1], [4, 1], [1, 2, 3, 4, 0]):
            handed = list(row)
            is_good(5, handed)
            self.assertEqual(handed, row)


class Labelled(Refusals):
    def check_label(self, prime, row):
        handed = list(row)
        label = labelled(prime, handed)
        self.assertEqual(handed, row)
        self.assertIs(type(label), list)
        self.assertEqual(label[:-2], row)
        for symbol in label:
            self.assertIs(type(symbol), int)
            self.assertTrue(0 <= symbol < prime, (prime, row, label))
        self.assertEqual(sums(prime, label), (0, 0), (prime, row, label))
        self.assertIs(is_good(prime, label), True)

    def test_by_hand(self):
        self.assertEqual(labelled(5, []), [0, 0])
        self.assertEqual(labelled(5, [1]), [1, 3, 1])
        self.assertEqual(labelled(5, [2]), [2, 1, 2])
        self.assertEqual(labelled(5, [0, 1]), [0, 1, 3, 1])
        self.assertEqual(labelled(5, [1, 0, 0]), [1, 0, 0, 1, 3])
        self.assertEqual(labelled(7, [1, 0]), [1, 0, 4, 2])
        self.assertEqual(labelled(47, []), [0, 0])
        self.assertEqual(labelled(47, [1]), [1, 45, 1])
        self.assertEqual(labelled(47, [46] * 45), [46] * 47)

    def test_each_length_of_each_prime(self):
        for prime in PRIMES:
            for length in range(prime - 1):
                for row in some_rows("labels", prime, length):
                    self.check_label(prime, row)

    def test_every_row_of_a_small_prime(self):
        for prime, most in ((5, 3), (7, 3)):
            for length in range(most + 1):
                for row in all_rows(prime, length):
                    self.check_label(prime, row)

    def test_no_other_two_symbols_make_it_good(self):
        for prime in (5, 7, 47):
            for length in (0, 1, prime - 3, prime - 2):
                for row in some_rows("only", prime, length, 1):
                    ends = [end for end in all_rows(prime, 2) if is_good(prime, row + end)]
                    self.assertEqual([row + end for end in ends], [labelled(prime, row)])

    def test_too_long(self):
        for prime in PRIMES:
            for length in (prime - 1, prime, prime + 1, 2 * prime - 2, 2 * prime, 1500):
                self.check_too_long(labelled, prime, [0] * length)
                self.check_too_long(labelled, prime, [prime - 1] * length)

    def test_no_symbol(self):
        for prime in PRIMES:
            for thing in NO_SYMBOLS + [prime, prime + 1, 2 * prime]:
                for number in (0, 1, prime - 3):
                    row = [0] * (prime - 2)
                    row[number] = thing
                    self.check_no_symbol(labelled, prime, row, number)
                self.check_no_symbol(labelled, prime, [thing], 0)

    def test_first_of_several(self):
        for thing in NO_SYMBOLS:
            for other in NO_SYMBOLS:
                self.check_no_symbol(labelled, 7, [0, 6, thing, 1, other], 2)

    def test_no_symbol_is_refused_ahead_of_too_long(self):
        for prime in PRIMES:
            for thing in NO_SYMBOLS + [prime]:
                for length in (prime - 1, prime, 100):
                    for number in (0, 3, length - 1):
                        row = [1] * length
                        row[number] = thing
                        self.check_no_symbol(labelled, prime, row, number)

    def test_labels_are_the_askers_own(self):
        row = [1, 2, 3]
        label = labelled(7, row)
        first = list(label)
        label[0] = 6
        label.append(5)
        self.assertEqual(row, [1, 2, 3])
        self.assertEqual(labelled(7, row), first)
        again = labelled(7, row)
        row.clear()
        self.assertEqual(again, first)
        self.assertEqual(labelled(7, row), [0, 0])
        empty = []
        labelled(7, empty).append(3)
        self.assertEqual(empty, [])
        self.assertEqual(labelled(7, empty), [0, 0])


def all_labels(prime, most):
    return [labelled(prime, row) for length in range(most + 1) for row in all_rows(prime, length)]


def some_labels(seed, prime):
    lengths = sorted({0, 1, 2, 3, (prime - 2) // 2, prime - 3, prime - 2})
    return [labelled(prime, row) for length in lengths for row in some_rows(seed, prime, length, 1)]


class Mended(Refusals):
    def test_by_hand(self):
        self.check_mended(5, [1, 3, 1], [1, 3, 1])
        self.check_mended(5, [1, 3, 2], [1, 3, 1])
        self.check_mended(5, [1, 3, None], [1, 3, 1])
        self.check_mended(5, [None, 3, 1], [1, 3, 1])
        self.check_mended(5, [None, None, 1], [1, 3, 1])
        self.check_mended(5, [None, 3, None], [1, 3, 1])
        self.check_mended(5, [None, None], [0, 0])
        self.check_mended(47, [1, 45, 40], [1, 45, 1])
        self.check_spoilt(5, [3, 1, 1])
        self.check_spoilt(5, [None, 3, 2])
        self.check_spoilt(5, [None, None, None])
        # A row of two symbols is good only where both are 0, so the one that isn't is the spoilt one.
        self.check_mended(5, [0, 3], [0, 0])
        self.check_mended(5, [3, 0], [0, 0])
        self.check_spoilt(5, [1, 1])
        self.check_spoilt(5, [1, 4])

    def test_every_scanned_row_of_the_least_prime(self):
        for length in range(2, 6):
            for things in itertools.product([None, 0, 1, 2, 3, 4], repeat=length):
                self.check_as_slowly(5, list(things))

    def check_as_slowly(self, prime, things):
        expected = mended_slowly(prime, things)
        if expected is None:
            self.check_spoilt(prime, things)
        else:
            self.check_mended(prime, things, expected)

    def test_many_scanned_rows(self):
        chance = random.Random(10)
        for prime in PRIMES:
            for turn in range(40):
                length = chance.choice([2, 3, prime - 1, prime, chance.randint(2, prime)])
                gaps = set(chance.sample(range(length), chance.choice([0, 0, 1, 2, 2])))
                things = [None if number in gaps else chance.randrange(prime) for number in range(length)]
                self.check_as_slowly(prime, things)

    def test_good_rows_stay(self):
        for prime, most in ((5, 3), (7, 2)):
            for label in all_labels(prime, most):
                self.check_mended(prime, label, label)
        for prime in PRIMES:
            for label in some_labels("stay", prime):
                self.check_mended(prime, label, label)

    def check_one_other(self, prime, label):
        for number in range(len(label)):
            for symbol in range(prime):
                if symbol != label[number]:
                    things = with_changed(label, {number: symbol})
                    self.assertIs(is_good(prime, things), False)
                    self.check_mended(prime, things, label)

    def test_one_symbol_another(self):
        for label in all_labels(5, 3):
            self.check_one_other(5, label)
        for prime in PRIMES:
            for label in some_labels("other", prime)[::2]:
                self.check_one_other(prime, label)

    def check_one_or_two_unreadable(self, prime, label):
        for number in range(len(label)):
            self.check_mended(prime, with_changed(label, {number: None}), label)
            for other in range(number):
                self.check_mended(prime, with_changed(label, {number: None, other: None}), label)

    def test_one_or_two_unreadable(self):
        for label in all_labels(5, 3):
            self.check_one_or_two_unreadable(5, label)
        for prime in PRIMES:
            for label in some_labels("unreadable", prime):
                self.check_one_or_two_unreadable(prime, label)

    def test_three_or_more_unreadable(self):
        for label in all_labels(5, 3):
            for numbers in itertools.combinations(range(len(label)), 3):
                self.check_spoilt(5, with_changed(label, dict.fromkeys(numbers)))
        chance = random.Random(11)
        for prime in PRIMES:
            for label in some_labels("three", prime):
                for gaps in range(3, len(label) + 1):
                    numbers = chance.sample(range(len(label)), gaps)
                    self.check_spoilt(prime, with_changed(label, dict.fromkeys(numbers)))

    def test_one_unreadable_and_one_another(self):
        for prime in (5, 7, 47):
            for label in some_labels("both", prime):
                for number in range(len(label)):
                    for other in range(len(label)):
                        if number != other:
                            symbol = (label[other] + 1) % prime
                            self.check_spoilt(prime, with_changed(label, {number: None, other: symbol}))

    def check_exchanged(self, prime, label):
        for number in range(len(label)):
            for other in range(number):
                if label[number] != label[other]:
                    things = with_changed(label, {number: label[other], other: label[number]})
                    self.assertIs(is_good(prime, things), False)
                    self.check_spoilt(prime, things)

    def test_two_unlike_symbols_exchanged(self):
        for label in all_labels(5, 3):
            self.check_exchanged(5, label)
        for prime in PRIMES:
            for label in some_labels("exchanged", prime):
                self.check_exchanged(prime, label)

    def test_two_symbols_others_are_not_good(self):
        for label in all_labels(5, 2) + [labelled(5, [1, 2, 3]), labelled(5, [4, 0, 2])]:
            for number in range(len(label)):
                for other in range(number):
                    for row in filled_in_every_way(5, with_changed(label, {number: None, other: None})):
                        self.assertIs(is_good(5, row), row == label)
        for label in some_labels("two", 47)[-4:]:
            for number, other in ((0, 1), (0, len(label) - 1), (len(label) - 2, len(label) - 1)):
                for row in filled_in_every_way(47, with_changed(label, {number: None, other: None})):
                    self.assertIs(is_good(47, row), row == label)

    def test_sum_0_but_not_good(self):
        for prime in PRIMES:
            for length in (2, 3, prime - 1, prime):
                things = [1, prime - 1] + [0] * (length - 2)
                self.check_spoilt(prime, things)
                self.check_spoilt(prime, list(reversed(things)))

    def test_a_place_that_the_row_has_not(self):
        for prime in PRIMES:
            for place in range(1, prime + 1):
                things = [(2 - place) % prime, place - 1, 0]
                self.assertEqual(sums(prime, things), (1, place % prime))
                if place <= 3:
                    symbol = (things[place - 1] - 1) % prime
                    self.check_mended(prime, things, with_changed(things, {place - 1: symbol}))
                else:
                    self.check_spoilt(prime, things)

    def test_other_lengths(self):
        for prime in PRIMES:
            for length in (0, 1, prime + 1, prime + 2, 2 * prime, 1500):
                for thing in (0, prime - 1, None):
                    self.check_too_long(mended, prime, [thing] * length)

    def test_too_long_is_refused_ahead_of_spoilt(self):
        self.check_too_long(mended, 5, [None] * 6)
        self.check_too_long(mended, 5, [None, 1, None, 1, None, 1, None])
        self.check_too_long(mended, 5, [1, 4, 0, 0, 0, 0])

    def test_no_symbol(self):
        for prime in PRIMES:
            for thing in NO_SYMBOLS + [prime, prime + 1, 2 * prime]:
                if thing is not None:
                    for number in (0, 1, prime - 1):
                        for other in (0, None):
                            things = [other] * prime
                            things[number] = thing
                            self.check_no_symbol(mended, prime, things, number)

    def test_no_symbol_is_refused_ahead_of_too_long_and_spoilt(self):
        for prime in PRIMES:
            for thing in NO_SYMBOLS + [prime]:
                if thing is not None:
                    self.check_no_symbol(mended, prime, [thing], 0)
                    self.check_no_symbol(mended, prime, [None] * prime + [thing], prime)
                    self.check_no_symbol(mended, prime, [0] * 60 + [thing, thing], 60)
                    self.check_no_symbol(mended, prime, [None, None, None, thing], 3)

    def test_none_is_no_symbol_for_a_label_but_is_one_for_a_scan(self):
        self.check_no_symbol(labelled, 5, [0, None], 1)
        self.check_mended(5, [0, None], [0, 0])

    def test_rows_are_the_askers_own(self):
        for things in ([1, 3, 1], [1, 3, 2], [None, 3, 1], [None, 3, None]):
            handed = list(things)
            row = mended(5, handed)
            row[0] = 4
            row.append(2)
            self.assertEqual(handed, things)
            again = mended(5, handed)
            self.assertEqual(again, [1, 3, 1])
            handed.clear()
            self.assertEqual(again, [1, 3, 1])
            self.assertEqual(row, [4, 3, 1, 2])


if __name__ == "__main__":
    unittest.main()
