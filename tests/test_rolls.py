import itertools
import random
import unittest

from barlabel.errors import LabelError, Lost, Mixed, NoLabel, NoRoom, NoSymbol, TooLong
from barlabel.rolls import Roll
from samples import NO_NUMBERS, NO_SYMBOLS, PRIMES, label_slowly, labels_slowly, sums, with_changed

# The prime and the room: the least and the greatest room of the least, of a middle and of the greatest prime.
SIZES = [(7, 1), (7, 2), (11, 1), (11, 3), (11, 6), (23, 18), (47, 1), (47, 42)]
SMALL_SIZES = SIZES[:5]

NO_ROWS = [None, True, False, 0, 1, 7, 2.5, "", "0", "0 1 0 0 3 3", "010033", b"", b"010033", (), {}, set(), object(),
           list, [], [[]], [None]]


def some_row(seed, prime, length):
    chance = random.Random(f"{seed} {prime} {length}")
    return [chance.randrange(prime) for place in range(length)]


def lengths(prime, room):
    """The edges of pieces: none, one, just as many as fill one, two or all pieces, one less and one more."""
    most = (prime - 1) * room
    near = [0, 1, room - 1, room, room + 1, 2 * room - 1, 2 * room, 2 * room + 1, 3 * room, most - room, most - 1, most]
    return sorted({length for length in near if 0 <= length <= most})


def gathered_slowly(prime, room, labels):
    """The row and all labels, or the refusal's class and field, step by step as the document tells."""
    for number, label in enumerate(labels):
        well = type(label) is list and len(label) == room + 5
        well = well and all(type(thing) is int and 0 <= thing < prime for thing in label)
        if not well or sums(prime, label) != (0, 0) or label[1] == 0 or label[0] > label[1]:
            return NoLabel, number
    for number, label in enumerate(labels):
        others = [other for other in labels[:number] if other[0] == label[0]]
        if label[1] != labels[0][1] or any(other != label for other in others):
            return Mixed, number
    if labels == []:
        return Lost, []
    there = {label[0]: label for label in labels}
    lacking = sorted(set(range(labels[0][1] + 1)) - set(there))
    if len(lacking) > 1:
        return Lost, lacking
    for number in lacking:
        made = [number, labels[0][1]]
        for place in range(2, room + 3):
            rest = sum(label[place] for label in there.values()) % prime
            made.append(0 if rest == 0 else prime - rest)
        there[number] = label_slowly(prime, made)
    whole = [there[number] for number in sorted(there)]
    if any(label[2] > room for label in whole[:-1]):
        return Mixed, None
    return [symbol for label in whole[:-1] for symbol in label[3:-2][:label[2]]], whole


def told_field(refusal):
    return refusal.numbers if isinstance(refusal, Lost) else refusal.number


class Rooms(unittest.TestCase):
    def check_no_room(self, prime, room):
        with self.subTest(prime=prime, room=room):
            with self.assertRaises(NoRoom):
                Roll(prime, room)

    def test_every_room_of_each_prime(self):
        for prime in PRIMES:
            for room in range(-3, prime + 4):
                if 1 <= room <= prime - 5:
                    Roll(prime, room)
                else:
                    self.check_no_room(prime, room)

    def test_least_and_greatest_rooms(self):
        for prime in PRIMES[1:]:
            self.assertEqual(len(Roll(prime, 1).parted([])[0]), 6)
            self.assertEqual(len(Roll(prime, prime - 5).parted([])[0]), prime)
            self.check_no_room(prime, 0)
            self.check_no_room(prime, -1)
            self.check_no_room(prime, prime - 4)
            self.check_no_room(prime, 10 ** 19)
            self.check_no_room(prime, -10 ** 19)

    def test_the_prime_5_has_no_room(self):
        for room in range(-6, 7):
            self.check_no_room(5, room)

    def test_rooms_of_other_kinds(self):
        for prime in PRIMES:
            for room in NO_NUMBERS + [1.0, "1", (1,), [1], {1: 1}, {1}]:
                self.check_no_room(prime, room)

    def test_numbers_that_are_no_primes(self):
        for prime in range(-50, 60):
            if prime not in PRIMES:
                for room in (1, 2, prime - 5):
                    self.check_no_room(prime, room)
        for prime in (53, 59, 61, 97, 101, 10 ** 19, -7, -47):
            self.check_no_room(prime, 1)

    def test_primes_of_other_kinds(self):
        for prime in NO_NUMBERS + [7.0, 47.0, "7", (7,), [7], {7: 7}, {7}, b"7"]:
            for room in (1, 2, True, None):
                self.check_no_room(prime, room)


class Parted(unittest.TestCase):
    def check_parted(self, prime, room, row, labels):
        handed = list(row)
        found = Roll(prime, room).parted(handed)
        self.assertEqual(found, labels, (prime, room, row))
        self.assertEqual(handed, row)
        for label in found:
            self.assertIs(type(label), list)
            self.assertEqual({type(symbol) for symbol in label}, {int})

    def check_refused(self, prime, room, row, kind, told):
        handed = list(row)
        with self.subTest(prime=prime, room=room, row=row):
            with self.assertRaises(kind) as caught:
                Roll(prime, room).parted(handed)
            number = caught.exception.length if kind is TooLong else caught.exception.number
            self.assertEqual(number, told)
            self.assertEqual([id(thing) for thing in handed], [id(thing) for thing in row])

    def test_by_hand(self):
        self.check_parted(7, 1, [], [[0, 1, 0, 0, 3, 3], [1, 1, 0, 0, 5, 0]])
        self.check_parted(7, 1, [3], [[0, 1, 1, 3, 1, 1], [1, 1, 6, 4, 0, 2]])
        self.check_parted(7, 1, [0], [[0, 1, 1, 0, 0, 5], [1, 1, 6, 0, 1, 5]])
        self.check_parted(7, 2, [3, 4, 5], [[0, 2, 2, 3, 4, 0, 3], [1, 2, 1, 5, 0, 0, 5], [2, 2, 4, 6, 3, 1, 3]])

    def test_by_hand_is_good(self):
        for label in ([0, 1, 0, 0, 3, 3], [1, 1, 6, 4, 0, 2], [0, 2, 2, 3, 4, 0, 3], [2, 2, 4, 6, 3, 1, 3]):
            self.assertEqual(sums(7, label), (0, 0))

    def test_labels_place_by_place(self):
        for prime, room in SIZES:
            for length in lengths(prime, room):
                row = some_row("places", prime, length)
                labels = Roll(prime, room).parted(row)
                count = max(1, -(-length // room))
                self.assertEqual(len(labels), count + 1)
                self.assertEqual([label[:2] for label in labels], [[number, count] for number in range(count + 1)])
                rest = list(row)
                for label in labels[:-1]:
                    piece, rest = rest[:room], rest[room:]
                    self.assertEqual(label[2], len(piece))
                    self.assertEqual(label[3:-2], piece + [0] * (room - len(piece)))
                self.assertEqual(rest, [])
                for place in range(2, room + 3):
                    self.assertEqual(sum(label[place] for label in labels) % prime, 0, (prime, room, row, place))
                for label in labels:
                    self.assertEqual(len(label), room + 5)
                    self.assertEqual(sums(prime, label), (0, 0), (prime, room, row, label))

    def test_the_same_as_the_slow_way(self):
        for prime, room in SIZES:
            for length in lengths(prime, room):
                for row in (some_row("slow", prime, length), [0] * length, [prime - 1] * length):
                    self.check_parted(prime, room, row, labels_slowly(prime, room, row))

    def test_every_room(self):
        for prime in PRIMES[1:]:
            for room in range(1, prime - 4):
                row = some_row("every", prime, min(2 * room + 1, (prime - 1) * room))
                self.check_parted(prime, room, row, labels_slowly(prime, room, row))

    def test_every_length(self):
        for prime, room in SMALL_SIZES:
            for length in range((prime - 1) * room + 1):
                row = some_row("length", prime, length)
                self.check_parted(prime, room, row, labels_slowly(prime, room, row))

    def test_row_without_symbols_is_one_piece(self):
        for prime, room in SIZES:
            labels = Roll(prime, room).parted([])
            self.assertEqual(len(labels), 2)
            self.assertEqual(labels[0][:-2], [0, 1, 0] + [0] * room)
            self.assertEqual(labels[1][:-2], [1, 1, 0] + [0] * room)

    def test_last_piece_is_full_or_has_one_symbol(self):
        for prime, room in SIZES[3:]:
            labels = Roll(prime, room).parted([1] * (2 * room))
            self.assertEqual([label[2] for label in labels[:-1]], [room, room])
            labels = Roll(prime, room).parted([1] * (2 * room + 1))
            self.assertEqual([label[2] for label in labels[:-1]], [room, room, 1])

    def test_as_many_pieces_as_can_be_and_one_more(self):
        for prime in PRIMES[1:]:
            for room in sorted({1, 2, prime - 5}):
                most = (prime - 1) * room
                self.assertEqual(len(Roll(prime, room).parted([1] * most)), prime)
                self.check_refused(prime, room, [1] * (most + 1), TooLong, most + 1)
                self.check_refused(prime, room, [0] * (most + room), TooLong, most + room)
                self.check_refused(prime, room, [prime - 1] * (2 * most), TooLong, 2 * most)

    def test_things_that_are_no_symbols(self):
        for prime, room in SIZES:
            for thing in NO_SYMBOLS + [prime, prime + 1]:
                self.check_refused(prime, room, [thing], NoSymbol, 0)
                self.check_refused(prime, room, [0, prime - 1, thing], NoSymbol, 2)
                self.check_refused(prime, room, [0, thing, 1, thing, prime], NoSymbol, 1)

    def test_no_symbol_is_refused_ahead_of_too_long(self):
        for prime, room in SIZES:
            most = (prime - 1) * room
            for thing in (prime, -1, None, True):
                self.check_refused(prime, room, [1] * most + [thing], NoSymbol, most)
                self.check_refused(prime, room, [1] * (most + 3) + [thing] * 2, NoSymbol, most + 3)

    def test_labels_are_the_askers_own(self):
        for prime, room in SIZES:
            roll = Roll(prime, room)
            row = some_row("own", prime, 2 * room)
            handed = list(row)
            labels = roll.parted(handed)
            kept = [list(label) for label in labels]
            again = roll.parted(handed)
            for label in again:
                label[0] = 9
                label.append(3)
            again.clear()
            handed[0] = (handed[0] + 1) % prime
            handed.append(1)
            roll.parted(handed)
            self.assertEqual(labels, kept)
            self.assertEqual(roll.parted(row), kept)
            self.assertEqual(len({id(label) for label in labels}), len(labels))


class Gathering(unittest.TestCase):
    def check_told(self, prime, room, labels, row, whole):
        handed = [list(label) for label in labels]
        outer = list(handed)
        roll = Roll(prime, room)
        found = roll.gathered(handed)
        self.assertEqual(found, row, (prime, room, labels))
        self.assertIs(type(found), list)
        told = roll.all_labels(handed)
        self.assertEqual(told, whole, (prime, room, labels))
        self.assertEqual([id(label) for label in handed], [id(label) for label in outer])
        self.assertEqual(handed, labels)
        self.assertFalse({id(label) for label in told} & {id(label) for label in handed})
        self.assertEqual(len({id(label) for label in told}), len(told))

    def check_refused(self, prime, room, labels, kind, told):
        roll = Roll(prime, room)
        for ask in (roll.gathered, roll.all_labels):
            handed = [list(label) if type(label) is list else label for label in labels]
            with self.subTest(ask=ask.__name__, prime=prime, room=room, labels=labels):
                with self.assertRaises(LabelError) as caught:
                    ask(handed)
                self.assertIs(type(caught.exception), kind)
                self.assertEqual(told_field(caught.exception), told)
                self.assertIs(type(told_field(caught.exception)), type(told))
                self.assertEqual(handed, labels)

    def check_like_the_slow_way(self, prime, room, labels):
        first, second = gathered_slowly(prime, room, labels)
        if type(first) is list:
            self.check_told(prime, room, labels, first, second)
        else:
            self.check_refused(prime, room, labels, first, second)
        return first if type(first) is type else list


class Gathered(Gathering):
    def test_by_hand(self):
        whole = [[0, 2, 2, 3, 4, 0, 3], [1, 2, 1, 5, 0, 0, 5], [2, 2, 4, 6, 3, 1, 3]]
        for labels in itertools.permutations(whole):
            self.check_told(7, 2, list(labels), [3, 4, 5], whole)
            self.check_told(7, 2, list(labels[1:]), [3, 4, 5], whole)
            self.check_told(7, 2, list(labels + labels[:1]), [3, 4, 5], whole)

    def test_all_labels_in_any_order(self):
        chance = random.Random(20)
        for prime, room in SIZES:
            for length in lengths(prime, room):
                row = some_row("order", prime, length)
                whole = labels_slowly(prime, room, row)
                self.check_told(prime, room, whole, row, whole)
                self.check_told(prime, room, whole[::-1], row, whole)
                self.check_told(prime, room, chance.sample(whole, len(whole)), row, whole)

    def test_each_one_left_out_by_itself(self):
        chance = random.Random(21)
        for prime, room in SIZES:
            for length in lengths(prime, room):
                row = some_row("out", prime, length)
                whole = labels_slowly(prime, room, row)
                for number in range(len(whole)):
                    rest = whole[:number] + whole[number + 1:]
                    self.check_told(prime, room, rest, row, whole)
                    self.check_told(prime, room, chance.sample(rest, len(rest)), row, whole)

    def test_some_twice_or_more_often(self):
        chance = random.Random(22)
        for prime, room in SMALL_SIZES + [(47, 42)]:
            for length in lengths(prime, room):
                row = some_row("twice", prime, length)
                whole = labels_slowly(prime, room, row)
                rest = list(whole)
                rest.remove(chance.choice(whole))
                for labels in (whole, rest):
                    labels = labels + [chance.choice(labels) for turn in range(5)]
                    self.check_told(prime, room, labels, row, whole)
                    self.check_told(prime, room, chance.sample(labels, len(labels)), row, whole)
                self.check_told(prime, room, whole * 2, row, whole)

    def test_row_without_symbols_from_either_label_alone(self):
        for prime, room in SIZES:
            whole = labels_slowly(prime, room, [])
            self.check_told(prime, room, whole[:1], [], whole)
            self.check_told(prime, room, whole[1:], [], whole)
            self.check_told(prime, room, whole[1:] * 3, [], whole)

    def test_every_row_of_up_to_two_symbols(self):
        for room in (1, 2):
            for length in range(3):
                for symbols in itertools.product(range(7), repeat=length):
                    row = list(symbols)
                    whole = labels_slowly(7, room, row)
                    self.check_told(7, room, whole, row, whole)
                    for number in range(len(whole)):
                        self.check_told(7, room, whole[:number] + whole[number + 1:], row, whole)

    def test_one_roll_answers_several_rows(self):
        roll = Roll(11, 3)
        rows = [some_row("several", 11, length) for length in (0, 2, 5, 9, 30)]
        parted = [roll.parted(row) for row in rows]
        for row, labels in zip(rows, parted):
            self.assertEqual(roll.gathered(labels[1:]), row)
            with self.assertRaises(Lost):
                roll.gathered([])
        for row, labels in zip(rows, parted):
            self.assertEqual(roll.gathered(labels[:-1]), row)
            self.assertEqual(roll.all_labels(labels[:-1]), labels)

    def test_what_was_told_stays_and_is_the_askers_own(self):
        for prime, room in SIZES:
            roll = Roll(prime, room)
            row = some_row("stays", prime, 2 * room)
            whole = labels_slowly(prime, room, row)
            for labels in (whole, whole[1:], whole[:-1]):
                handed = [list(label) for label in labels]
                told, gathered = roll.all_labels(handed), roll.gathered(handed)
                for label in handed:
                    label[2] = 0
                    label.append(1)
                handed.clear()
                self.assertEqual(told, whole)
                self.assertEqual(gathered, row)
                for label in told:
                    label.reverse()
                gathered.append(5)
                handed = [list(label) for label in labels]
                self.assertEqual(roll.all_labels(handed), whole)
                self.assertEqual(roll.gathered(handed), row)

    def test_what_is_told_is_not_what_was_handed_in(self):
        roll = Roll(7, 2)
        handed = roll.parted([1, 2, 3])
        for label in roll.all_labels(handed):
            label.clear()
        self.assertEqual(handed, labels_slowly(7, 2, [1, 2, 3]))


class NoLabels(Gathering):
    def check_everywhere(self, prime, room, thing):
        whole = labels_slowly(prime, room, some_row("label", prime, 2 * room))
        self.check_refused(prime, room, [thing], NoLabel, 0)
        for number in range(len(whole) + 1):
            self.check_refused(prime, room, whole[:number] + [thing] + whole[number:], NoLabel, number)
            self.check_refused(prime, room, whole[:number] + [thing] + whole[number + 1:], NoLabel, number)

    def test_things_of_other_kinds(self):
        for prime, room in SMALL_SIZES:
            label = labels_slowly(prime, room, [1])[0]
            for thing in NO_ROWS + [tuple(label), str(label), bytes(label), dict(enumerate(label)), [label]]:
                self.check_everywhere(prime, room, thing)

    def test_another_length(self):
        for prime, room in SIZES:
            for length in range(2, prime + 1):
                if length != room + 5:
                    self.check_everywhere(prime, room, label_slowly(prime, [0, 1, 1, 0, 0][:length - 2]
                                                                    + [0] * (length - 7)))
            # One nought more behind a label, or at its end one less, leaves it good but for its length.
            self.check_everywhere(prime, room, label_slowly(prime, [0, 2, 0] + [0] * room) + [0])
            self.check_everywhere(prime, room, [0] * (room + 4))
            self.check_everywhere(prime, room, [0] * (room + 6))

    def test_one_symbol_another(self):
        for prime, room in SMALL_SIZES:
            whole = labels_slowly(prime, room, some_row("another", prime, 2 * room))
            for label in whole:
                for place in range(room + 5):
                    for symbol in range(prime):
                        if symbol != label[place]:
                            self.check_refused(prime, room, whole + [with_changed(label, {place: symbol})], NoLabel, 3)

    def test_two_symbols_exchanged(self):
        for prime, room in SMALL_SIZES:
            label = labels_slowly(prime, room, some_row("exchanged", prime, room))[0]
            for one, other in itertools.combinations(range(room + 5), 2):
                if label[one] != label[other]:
                    self.check_everywhere(prime, room, with_changed(label, {one: label[other], other: label[one]}))

    def test_one_of_both_sums_is_not_enough(self):
        # The sum is 0 and the weighed sum is not; the other way about.
        self.assertEqual(sums(7, [0, 1, 0, 0, 4, 2]), (0, 6))
        self.check_everywhere(7, 1, [0, 1, 0, 0, 4, 2])
        self.assertEqual(sums(7, [0, 1, 0, 0, 0, 2]), (3, 0))
        self.check_everywhere(7, 1, [0, 1, 0, 0, 0, 2])

    def test_truths_and_others_in_the_place_of_a_symbol(self):
        for prime, room in SMALL_SIZES:
            label = label_slowly(prime, [0, 1, 1] + [0] * room)
            self.check_like_the_slow_way(prime, room, [label])
            for place, symbol in enumerate(label):
                things = [float(symbol), str(symbol), None, [symbol], (symbol,), symbol + prime, symbol - prime]
                if symbol in (0, 1):
                    things.append(symbol == 1)
                for thing in things:
                    changed = with_changed(label, {place: thing})
                    self.check_refused(prime, room, [changed], NoLabel, 0)
                    self.check_refused(prime, room, [label, label, changed], NoLabel, 2)

    def test_second_symbol_of_nought(self):
        for prime, room in SIZES:
            for first in (0, 1, prime - 1):
                for length in (0, 1):
                    self.check_everywhere(prime, room, label_slowly(prime, [first, 0, length] + [0] * room))
            self.check_everywhere(prime, room, [0] * (room + 5))

    def test_first_symbol_above_the_second(self):
        for prime, room in SMALL_SIZES:
            for second in range(1, prime):
                for first in range(second + 1, prime):
                    self.check_refused(prime, room, [label_slowly(prime, [first, second, 0] + [0] * room)], NoLabel, 0)
        self.check_everywhere(7, 1, label_slowly(7, [3, 2, 0, 0]))
        self.check_everywhere(47, 42, label_slowly(47, [46, 45] + [0] * 43))

    def test_first_symbol_as_great_as_the_second_is_the_spare(self):
        for prime, room in SMALL_SIZES:
            for second in range(2, prime):
                lacking = list(range(second))
                self.check_refused(prime, room, [label_slowly(prime, [second, second, 0] + [0] * room)], Lost, lacking)

    def test_first_one_in_the_list(self):
        whole = labels_slowly(7, 2, [1, 2, 3])
        self.check_refused(7, 2, [whole[0], None, whole[1], [], whole[2]], NoLabel, 1)
        self.check_refused(7, 2, whole + [[0] * 7, None], NoLabel, 3)
        self.check_refused(7, 2, [None] * 4, NoLabel, 0)

    def test_ahead_of_mixed_through_the_whole_list(self):
        whole = labels_slowly(7, 2, [1, 2, 3])
        other = labels_slowly(7, 2, [1, 2, 3, 4, 5])
        unlike = labels_slowly(7, 2, [6, 2, 3])
        for label in (other[0], other[3], unlike[0], unlike[2]):
            for thing in (None, True, tuple(whole[0]), whole[0][:-1], [0] * 7):
                self.check_refused(7, 2, whole + [label, thing], NoLabel, 4)
                self.check_refused(7, 2, [whole[0], label, whole[2], thing], NoLabel, 3)

    def test_ahead_of_lost(self):
        whole = labels_slowly(7, 1, [1, 2, 3, 4])
        self.check_refused(7, 1, whole[:2] + [None], NoLabel, 2)
        self.check_refused(7, 1, [[0] * 6], NoLabel, 0)

    def test_a_label_of_another_roll(self):
        for label in labels_slowly(11, 1, [7, 8, 9]) + labels_slowly(7, 2, [1, 2, 3]):
            self.check_refused(7, 1, [label], NoLabel, 0)


class MixedLabels(Gathering):
    def test_another_second_symbol(self):
        for prime, room in SMALL_SIZES:
            whole = labels_slowly(prime, room, some_row("whole", prime, 2 * room))
            other = labels_slowly(prime, room, some_row("other", prime, 3 * room))
            for number in range(1, len(whole) + 1):
                for label in other:
                    self.check_refused(prime, room, whole[:number] + [label] + whole[number:], Mixed, number)
                    self.check_refused(prime, room, other[:number] + whole, Mixed, number)
            # The first row in the list counts, though all the others belong together.
            for label in other:
                self.check_refused(prime, room, [label] + whole, Mixed, 1)

    def test_another_row_with_the_same_first_symbol(self):
        for prime, room in SMALL_SIZES:
            row = some_row("row", prime, 2 * room)
            whole = labels_slowly(prime, room, row)
            other = labels_slowly(prime, room, [(symbol + 1) % prime for symbol in row])
            for label in other:
                self.check_refused(prime, room, whole + [label], Mixed, 3)
                self.check_refused(prime, room, [label] + whole, Mixed, label[0] + 1)
                self.check_refused(prime, room, whole + whole[::-1] + [label, label], Mixed, 6)

    def test_rows_that_differ_behind_their_length_or_in_the_spare(self):
        one = label_slowly(7, [0, 1, 1, 3, 4])
        other = label_slowly(7, [0, 1, 1, 3, 5])
        self.check_refused(7, 2, [one, other], Mixed, 1)
        spare = label_slowly(7, [1, 1, 1, 3, 4])
        other = label_slowly(7, [1, 1, 2, 3, 4])
        self.check_refused(7, 2, [one, spare, other], Mixed, 2)
        self.check_refused(7, 2, [spare, other, one], Mixed, 1)

    def test_far_behind_the_one_with_the_same_first_symbol(self):
        whole = labels_slowly(47, 1, some_row("far", 47, 46))
        other = labels_slowly(47, 1, [(symbol + 1) % 47 for symbol in some_row("far", 47, 46)])
        self.check_refused(47, 1, whole + other[:1], Mixed, 47)
        self.check_refused(47, 1, whole + whole + other[46:], Mixed, 94)

    def test_first_one_in_the_list_whatever_is_unlike(self):
        whole = labels_slowly(7, 2, [1, 2, 3])
        unlike = labels_slowly(7, 2, [6, 2, 3])
        other = labels_slowly(7, 2, [1, 2, 3, 4, 5])
        self.check_refused(7, 2, [whole[0], whole[1], unlike[0], other[1]], Mixed, 2)
        self.check_refused(7, 2, [whole[0], other[1], whole[1], unlike[0]], Mixed, 1)
        self.check_refused(7, 2, [whole[0], whole[0], other[0], other[0]], Mixed, 2)

    def test_ahead_of_lost(self):
        whole = labels_slowly(7, 1, [1, 2, 3, 4])
        other = labels_slowly(7, 1, [1, 2, 3])
        unlike = labels_slowly(7, 1, [5, 2, 3, 4])
        self.check_refused(7, 1, [whole[0], other[1]], Mixed, 1)
        self.check_refused(7, 1, [whole[0], unlike[0]], Mixed, 1)
        self.check_refused(7, 1, [whole[4], whole[0], whole[4], other[0]], Mixed, 3)

    def test_labels_that_belong_together_by_what_is_looked_at(self):
        # One of another row is taken where none lacks: it isn't looked at whether all sum up to 0.
        whole = labels_slowly(7, 2, [1, 2, 3])
        other = labels_slowly(7, 2, [5, 6, 4])
        labels = [whole[0], other[1], whole[2]]
        self.check_told(7, 2, labels, [1, 2, 4], labels)


class Lengths(Gathering):
    def test_piece_longer_than_the_room(self):
        for prime, room in SMALL_SIZES:
            for length in range(room + 1, prime):
                piece = label_slowly(prime, [0, 1, length] + [1] * room)
                spare = label_slowly(prime, [1, 1, 0] + [2] * room)
                self.check_refused(prime, room, [piece, spare], Mixed, None)
                self.check_refused(prime, room, [spare, piece, spare], Mixed, None)

    def test_any_piece(self):
        for prime, room in SMALL_SIZES:
            for long in range(3):
                labels = [label_slowly(prime, [number, 3, room + (number == long)] + [1] * room) for number in range(3)]
                labels.append(label_slowly(prime, [3, 3, 0] + [1] * room))
                self.check_refused(prime, room, labels, Mixed, None)
                self.check_refused(prime, room, labels[::-1], Mixed, None)

    def test_piece_made_again_longer_than_the_room(self):
        for prime, room in SMALL_SIZES:
            for length in range(prime):
                spare = label_slowly(prime, [1, 1, -length % prime] + [-1 % prime] * room)
                piece = label_slowly(prime, [0, 1, length] + [1] * room)
                if length > room:
                    self.check_refused(prime, room, [spare], Mixed, None)
                else:
                    self.check_told(prime, room, [spare], [1] * length, [piece, spare])

    def test_piece_that_is_there_too_long_and_another_made_again(self):
        piece = label_slowly(7, [0, 2, 3, 1, 1])
        self.check_refused(7, 2, [piece, label_slowly(7, [1, 2, 1, 1, 1])], Mixed, None)
        self.check_refused(7, 2, [piece, label_slowly(7, [2, 2, 3, 1, 1])], Mixed, None)

    def test_lost_and_mixed_are_ahead(self):
        piece = label_slowly(7, [0, 3, 6, 1, 1])
        self.check_refused(7, 2, [piece], Lost, [1, 2, 3])
        self.check_refused(7, 2, [piece, label_slowly(7, [2, 3, 6, 1, 1])], Lost, [1, 3])
        self.check_refused(7, 2, [piece, label_slowly(7, [0, 3, 5, 1, 1])], Mixed, 1)
        self.check_refused(7, 2, [piece, None], NoLabel, 1)

    def test_length_of_the_spare_is_not_looked_at(self):
        for prime, room in SMALL_SIZES:
            piece = label_slowly(prime, [0, 1, room] + [1] * room)
            for length in range(prime):
                spare = label_slowly(prime, [1, 1, length] + [3] * room)
                self.check_told(prime, room, [spare, piece], [1] * room, [piece, spare])
            # Made again, the spare's length is above the room, too.
            spare = label_slowly(prime, [1, 1, prime - room] + [prime - 1] * room)
            self.check_told(prime, room, [piece], [1] * room, [piece, spare])

    def test_pieces_shorter_than_the_room_with_any_symbols_behind(self):
        whole = [label_slowly(11, head) for head in ([0, 3, 1, 5, 6, 7], [1, 3, 0, 8, 9, 10], [2, 3, 2, 1, 2, 3])]
        whole.append(label_slowly(11, [3, 3, 8, 8, 5, 2]))
        self.check_told(11, 3, whole, [5, 1, 2], whole)
        for number in range(4):
            self.check_told(11, 3, whole[:number] + whole[number + 1:], [5, 1, 2], whole)
        # All pieces without symbols, though the room holds some.
        whole = [label_slowly(11, [0, 1, 0, 5, 6, 7]), label_slowly(11, [1, 1, 4, 4, 4, 4])]
        self.check_told(11, 3, whole, [], whole)

    def test_any_lengths_and_symbols(self):
        chance = random.Random(19)
        for turn in range(300):
            prime, room = chance.choice(SIZES)
            count = chance.randint(1, min(prime - 1, 5))
            pieces = [[chance.randint(0, room)] + [chance.randrange(prime) for place in range(room)]
                      for number in range(count)]
            whole = [label_slowly(prime, [number, count] + piece) for number, piece in enumerate(pieces)]
            spare = [-sum(piece[place] for piece in pieces) % prime for place in range(room + 1)]
            whole.append(label_slowly(prime, [count, count] + spare))
            row = [symbol for piece in pieces for symbol in piece[1:piece[0] + 1]]
            self.check_told(prime, room, whole, row, whole)
            out = chance.randrange(count + 1)
            rest = whole[:out] + whole[out + 1:]
            self.check_told(prime, room, chance.sample(rest, count), row, whole)


class LostLabels(Gathering):
    def test_no_rows(self):
        for prime, room in SIZES:
            self.check_refused(prime, room, [], Lost, [])

    def test_every_two_or_more_lacking(self):
        for prime, room, length in ((7, 1, 2), (7, 1, 4), (7, 2, 9), (11, 3, 10)):
            whole = labels_slowly(prime, room, some_row("lost", prime, length))
            for count in range(1, len(whole) - 1):
                for left in itertools.combinations(whole, count):
                    lacking = [label[0] for label in whole if label not in left]
                    self.check_refused(prime, room, list(left), Lost, lacking)
                    self.check_refused(prime, room, list(left[::-1]) * 2, Lost, lacking)

    def test_one_label_alone(self):
        for prime, room in SIZES:
            whole = labels_slowly(prime, room, [1] * ((prime - 1) * room))
            for number in (0, 1, prime - 2, prime - 1):
                lacking = [other for other in range(prime) if other != number]
                self.check_refused(prime, room, [whole[number]], Lost, lacking)

    def test_two_lacking_of_many(self):
        whole = labels_slowly(47, 42, some_row("many", 47, 1500))
        count = whole[0][1]
        self.assertEqual(count, 36)
        for one, other in ((0, 1), (0, 36), (35, 36), (17, 20)):
            rest = [label for label in whole if label[0] not in (one, other)]
            self.check_refused(47, 42, rest[::-1], Lost, [one, other])

    def test_the_list_told_is_the_askers_own(self):
        roll = Roll(7, 1)
        labels = roll.parted([1, 2, 3])
        told = []
        for turn in range(2):
            for ask in (roll.gathered, roll.all_labels):
                for handed, lacking in (([], []), (labels[:2], [2, 3])):
                    with self.assertRaises(Lost) as caught:
                        ask(handed)
                    self.assertEqual(caught.exception.numbers, lacking)
                    told.append(caught.exception.numbers)
                    caught.exception.numbers.append(9)
        self.assertEqual(len({id(numbers) for numbers in told}), len(told))


class AnyLists(Gathering):
    def made_label(self, chance, prime, room):
        count = chance.choice([1, 2, 2, 2, 3])
        first = chance.choice([0, 1, 2, count])
        symbols = [chance.randint(0, 1) for place in range(room)]
        length = room + 1 if chance.random() < 0.03 else chance.choice([0, 1, room])
        label = label_slowly(prime, [first, count, length] + symbols)
        if chance.random() < 0.02:
            label[chance.randrange(room + 5)] = chance.choice([None, True, 0, 1, prime])
        return label

    def test_like_the_slow_way(self):
        chance = random.Random(23)
        seen = {}
        for turn in range(6000):
            prime, room = chance.choice([(7, 1), (7, 2), (11, 1)])
            labels = [self.made_label(chance, prime, room) for number in range(chance.randint(0, 4))]
            kind = self.check_like_the_slow_way(prime, room, labels)
            seen[kind] = seen.get(kind, 0) + 1
        for kind in (list, NoLabel, Mixed, Lost):
            self.assertGreater(seen[kind], 50)


if __name__ == "__main__":
    unittest.main()
