import itertools
import random
import unittest

from barlabel.apart import apart
from barlabel.errors import LabelError
from barlabel.tables import Table
from samples import APART, EITHER, FULL, PLAIN, RING, SINGLE, SMALL, made_table, made_tables, read_slowly, words_of

SAMPLES = SMALL + [FULL]


def outcome(table_text, row):
    """The text, or None where the row is refused."""
    prime = len(words_of(table_text)[0])
    if any(symbol >= prime for symbol in row):
        return None
    read = read_slowly(table_text, row)
    return read if isinstance(read, str) else None


def is_open(table_text, row):
    """Whether the row, though perhaps refused as it is, may be the beginning of one that is read."""
    prime = len(words_of(table_text)[0])
    read = read_slowly(table_text, row) if all(symbol < prime for symbol in row) else 0
    return isinstance(read, str) or read == len(row) > 0


def shortest_parting_row(one, other, most):
    """A shortest row of at most so many symbols that is not read alike: all rows gone through."""
    symbols = range(max(len(words_of(text)[0]) for text in (one, other)))
    rows = [[]]
    for length in range(1, most + 1):
        rows = [row + [symbol] for row in rows for symbol in symbols]
        for row in rows:
            if outcome(one, row) != outcome(other, row):
                return row
        rows = [row for row in rows if is_open(one, row) or is_open(other, row)]
    return None


def state_behind(words, state, symbol):
    """The next state, and what the row gives if it ends here: no text at all where it is refused."""
    if state == "refused" or symbol >= len(words[0]):
        return "refused", "no text"
    case, shifted = state
    word = words[case if shifted is None else shifted][symbol]
    if word[:-1] == "lock" and shifted is None:
        return (int(word[-1]), None), ""
    if word[:-1] == "shift" and shifted is None:
        return (case, int(word[-1])), "no text"
    if len(word) == 1 and word != "-":
        return (case, None), word
    return "refused", "no text"


def parting_length(one, other):
    """The least length of a row that is not read alike, or None: states told apart length by length."""
    tables = [words_of(one), words_of(other)]
    symbols = range(max(len(words[0]) for words in tables))
    states = [(number, state) for number, words in enumerate(tables)
              for state in ["refused"] + list(itertools.product(range(len(words)), [None] + list(range(len(words)))))]
    steps = {(number, state): [state_behind(tables[number], state, symbol) for symbol in symbols]
             for number, state in states}
    sorts = dict.fromkeys(states, 0)
    for length in itertools.count(1):
        finer = {state: (sorts[state], tuple((given, sorts[state[0], following]) for following, given in steps[state]))
                 for state in states}
        numbers = {sort: number for number, sort in enumerate(sorted(set(finer.values())))}
        if finer[0, (0, None)] != finer[1, (0, None)]:
            return length
        if len(numbers) == len(set(sorts.values())):
            return None
        sorts = {state: numbers[finer[state]] for state in states}


def with_word(table_text, case, symbol, word):
    rows = [row.split(" ") for row in table_text.split("\n")]
    rows[case + 1][symbol] = word
    return "\n".join(" ".join(row) for row in rows)


def with_cases_in_order(table_text, order):
    """The case order[k] of the old table is the case k of the new one."""
    words = words_of(table_text)
    rows = [table_text.split("\n")[0]]
    for case in order:
        row = [word[:-1] + str(order.index(int(word[-1]))) if len(word) > 1 else word for word in words[case]]
        rows.append(" ".join(row))
    return "\n".join(rows)


def with_prime(table_text, prime, word="-"):
    rows = table_text.split("\n")[1:]
    rows = [" ".join((row.split(" ") + [word] * prime)[:prime]) for row in rows]
    return "\n".join([f"symbols {prime}"] + rows)


def words_for(table_text):
    cases = range(len(words_of(table_text)))
    return ["a", "b", "z", "-"] + [f"{kind}{case}" for kind in ("lock", "shift") for case in cases]


class ApartCase(unittest.TestCase):
    def check_row(self, one, other, row, length):
        """The row is of this length, one of both reads it, and they don't read it alike."""
        self.assertIs(type(row), list)
        self.assertEqual({type(symbol) for symbol in row}, {int})
        self.assertEqual(len(row), length, (one, other, row))
        self.assertNotEqual(outcome(one, row), outcome(other, row), (one, other, row))
        read = []
        for text in (one, other):
            try:
                read.append(Table(text).read(row))
            except LabelError:
                read.append(None)
        self.assertEqual(read, [outcome(one, row), outcome(other, row)])

    def check_apart(self, one, other, length):
        self.assertEqual(parting_length(one, other), length, (one, other))
        for first, second in ((one, other), (other, one)):
            row = apart(Table(first), Table(second))
            if length is None:
                self.assertIsNone(row, (first, second))
            else:
                self.assertIsNotNone(row, (first, second))
                self.check_row(first, second, row, length)

    def check_slowly(self, one, other, most=4):
        """Like check_apart, and each shorter row, as far as gone through, is read alike."""
        length = parting_length(one, other)
        self.check_apart(one, other, length)
        row = shortest_parting_row(one, other, most)
        self.assertEqual(None if row is None else len(row), None if length is None or length > most else length)
        return length


class Alike(ApartCase):
    def test_a_table_and_itself(self):
        for text in SAMPLES:
            table = Table(text)
            self.assertIsNone(apart(table, table))
            self.check_apart(text, text, None)
            self.check_slowly(text, text)

    def test_many_tables_and_themselves(self):
        for text in made_tables(21, 60, "abc1"):
            self.check_apart(text, text, None)

    def test_cases_in_another_order(self):
        for text in SAMPLES:
            cases = len(words_of(text))
            for order in itertools.permutations(range(cases)):
                changed = with_cases_in_order(text, list(order))
                if order[0] == 0:
                    self.check_apart(text, changed, None)
                else:
                    self.check_slowly(text, changed)

    def test_case_that_nothing_leads_to(self):
        for text in (PLAIN, RING, SINGLE, EITHER):
            cases = len(words_of(text))
            for row in ("a b c d e", "- - - - -", "lock0 shift0 a a -"):
                self.check_apart(text, text + "\n" + row, None)
                self.check_apart(text + "\n" + row, text + f"\nz lock{cases} - 9 9", None)
        # Only the case itself leads to it.
        self.check_apart(SINGLE, SINGLE + "\na b lock1 shift1 -", None)
        # Two cases lead to one another.
        self.check_apart(SINGLE, SINGLE + "\na lock2 - - -\nb lock1 - - -", None)

    def test_case_that_nothing_leads_to_is_another(self):
        for word in words_for(APART):
            for symbol in range(5):
                self.check_apart(APART, with_word(APART, 1, symbol, word), None)

    def test_two_cases_that_are_the_same(self):
        one = "symbols 5\na lock1 shift1 - -\nb lock0 - - -"
        other = "symbols 5\na lock1 shift2 - -\nb lock0 - - -\nb lock0 - - -"
        self.check_apart(one, other, None)
        other = "symbols 5\na lock1 shift1 - -\nb lock2 - - -\na lock3 shift3 - -\nb lock0 - - -"
        self.check_apart(one, other, None)

    def test_lock_to_the_case_itself_and_to_one_alike(self):
        self.check_apart("symbols 5\na lock0 - - -", "symbols 5\na lock1 - - -\na lock0 - - -", None)
        self.check_apart("symbols 5\na lock0 - - -", "symbols 5\na lock1 - - -\na lock1 - - -", None)

    def test_shift_behind_which_no_sign_stands_is_like_nothing(self):
        self.check_slowly("symbols 5\na shift1 - - -\n- lock0 shift0 - -", "symbols 5\na - - - -")
        self.check_apart("symbols 5\na shift1 - - -\n- lock0 shift0 - -", "symbols 5\na - - - -", None)
        self.check_apart("symbols 5\na shift1 - - -\n- - - - -", "symbols 5\na shift1 - - -\nlock0 - - - -", None)
        # Behind the shift just the signs count.
        self.check_apart("symbols 5\na shift1 - - -\nb lock0 - - -", "symbols 5\na shift1 - - -\nb - shift0 - -", None)

    def test_sign_in_several_places(self):
        self.check_apart("symbols 5\na a a a a", "symbols 5\na a a a a\na a a a a", None)
        self.check_apart("symbols 5\na lock1 shift1 - -\na lock0 shift0 - -", "symbols 5\na lock0 shift0 - -", None)

    def test_tables_that_read_no_signs(self):
        self.check_apart("symbols 5\n- - - - -", "symbols 47\n" + " ".join(["-"] * 47), None)
        self.check_apart("symbols 5\n- - - - -", "symbols 7\nshift0 - - - - - shift0", None)
        self.check_apart("symbols 5\nlock0 - - - -", "symbols 5\nlock1 - - - -\nlock2 - - - -\nlock0 - - - -", None)


class Unlike(ApartCase):
    def test_one_symbol(self):
        one = "symbols 5\na - lock0 shift0 -"
        for word in ("b", "-", "lock0", "shift0"):
            self.check_apart(one, with_word(one, 0, 0, word), 1)
        for word in ("a", "lock0"):
            self.check_apart(one, with_word(one, 0, 1, word), 1)
        for word in ("a", "-", "shift0"):
            self.check_apart(one, with_word(one, 0, 2, word), 1)
        for word in ("a", "lock0"):
            self.check_apart(one, with_word(one, 0, 3, word), 1)

    def test_the_row_itself_where_there_is_but_one(self):
        self.assertEqual(apart(Table("symbols 5\na b - - -"), Table("symbols 5\na c - - -")), [1])
        self.assertEqual(apart(Table("symbols 5\na b - - -"), Table("symbols 5\na b - - 0")), [4])
        self.assertEqual(apart(Table(RING), Table(with_word(RING, 1, 0, "c"))), [1, 0])
        self.assertEqual(apart(Table(RING), Table(with_word(RING, 2, 4, "c"))), [1, 1, 4])

    def test_refused_by_just_one_of_both(self):
        # Nothing, and a sign or a lock in its place.
        self.check_apart("symbols 5\na - - - -", "symbols 5\na - - - b", 1)
        self.check_apart("symbols 5\na - - - -", "symbols 5\na - - - lock0", 1)
        # Behind a shift: a sign, and a lock, a shift or nothing in its place.
        for word in ("lock0", "shift1", "-"):
            self.check_apart("symbols 5\na shift1 - - -\nb c - - -", f"symbols 5\na shift1 - - -\nb {word} - - -", 2)

    def test_rows_that_end_with_a_shift(self):
        # The one reads the row and gives no sign, the other one refuses it because it ends.
        self.check_apart("symbols 5\na lock1 - - -\nb - - - -", "symbols 5\na shift1 - - -\nb - - - -", 1)
        self.check_apart("symbols 5\na lock0 - - -", "symbols 5\na shift1 - - -\n- - - - -", 1)
        self.check_apart("symbols 5\na b - - -", "symbols 5\na shift1 - - -\nb - - - -", 1)
        # Both refuse it, and the next symbol shows what they are.
        self.check_apart("symbols 5\na shift1 - - -\nb - - - -", "symbols 5\na - - - -", 2)
        self.check_apart("symbols 5\na shift0 - - -\nb - - - -", "symbols 5\na shift1 - - -\nb - - - -", 2)

    def test_the_same_text_in_the_end_is_not_enough(self):
        # Both read two symbols as one sign, but not the first one alone.
        self.check_apart("symbols 5\nshift1 a - - -\n- b - - -", "symbols 5\nb lock0 - - -", 1)
        self.check_apart("symbols 5\nlock1 - - - -\n- a lock0 - -", "symbols 5\na - - - -", 1)

    def test_behind_a_shift_the_case_is_not_the_same(self):
        one = "symbols 5\na shift1 lock1 - -\nb lock0 - - -"
        other = "symbols 5\na shift2 lock1 - -\nb lock0 - - -\nb c - - -"
        self.check_apart(one, other, 2)
        self.check_apart(one, with_word(other, 2, 1, "lock2"), None)

    def test_far_behind(self):
        # Rings of three and of four cases give the same signs for five locks: aab aab, aaba aaba.
        three = "symbols 5\na lock1 - - -\na lock2 - - -\nb lock0 - - -"
        four = "symbols 5\na lock1 - - -\na lock2 - - -\nb lock3 - - -\na lock0 - - -"
        self.check_apart(three, four, 6)
        self.check_slowly(three, four, 6)
        self.assertEqual(apart(Table(three), Table(four)), [1, 1, 1, 1, 1, 0])
        # With nothing in the place of a, the last row shows it by a refusal.
        self.check_apart(three.replace("a", "-"), four.replace("a", "-"), 6)
        self.check_slowly(three.replace("a", "-"), four.replace("a", "-"), 6)

    def test_far_behind_and_behind_a_shift(self):
        three = "symbols 5\nc lock1 shift0 - -\n- lock2 shift0 - -\n- lock0 shift1 - -"
        four = "symbols 5\nc lock1 shift0 - -\n- lock2 shift0 - -\n- lock3 shift1 - -\n- lock0 shift0 - -"
        length = parting_length(three, four)
        self.assertGreater(length, 3)
        self.check_slowly(three, four, 6)

    def test_every_word_of_small_tables_another(self):
        for text in SMALL:
            for case, row in enumerate(words_of(text)):
                for symbol in range(len(row)):
                    for word in words_for(text):
                        self.check_slowly(text, with_word(text, case, symbol, word))

    def test_one_word_of_a_full_table_another(self):
        for case, row in enumerate(words_of(FULL)):
            for symbol in range(len(row)):
                for word in words_for(FULL):
                    changed = with_word(FULL, case, symbol, word)
                    self.check_apart(FULL, changed, parting_length(FULL, changed))


class OfTwoPrimes(ApartCase):
    def test_further_symbols_that_mean_nothing(self):
        for text in SMALL:
            for prime in (7, 11, 47):
                self.check_apart(text, with_prime(text, prime), None)
        self.check_slowly(SINGLE, with_prime(SINGLE, 7))

    def test_further_symbols_that_mean_something(self):
        for text in SMALL:
            for word in ("a", "lock0"):
                self.check_apart(text, with_prime(text, 7, word), 1)
        self.assertIn(apart(Table(SINGLE), Table(with_prime(SINGLE, 7, "a"))), ([5], [6]))
        self.assertEqual(apart(Table(SINGLE), Table(with_word(with_prime(SINGLE, 47), 0, 46, "a"))), [46])
        self.assertEqual(apart(Table(with_word(with_prime(SINGLE, 47), 0, 46, "a")), Table(SINGLE)), [46])

    def test_further_symbol_that_is_a_shift(self):
        for text in SMALL:
            self.check_slowly(text, with_word(with_prime(text, 7), 0, 5, "shift0"), 3)
        self.check_apart(SINGLE, with_word(with_prime(SINGLE, 7), 0, 5, "shift0"), 2)
        # No sign stands behind it.
        dumb = "symbols 5\nlock1 - - - -\na - - - -"
        self.check_apart(dumb, with_word(with_prime(dumb, 7), 0, 5, "shift0"), None)
        self.check_apart(dumb, with_word(with_prime(dumb, 7), 0, 5, "shift1"), 2)

    def test_further_symbol_behind_a_shift(self):
        one = "symbols 5\na shift1 - - -\nb - - - -"
        self.check_apart(one, with_word(with_prime(one, 7), 1, 6, "c"), 2)
        self.check_apart(one, with_word(with_prime(one, 7), 1, 6, "lock0"), None)

    def test_further_symbol_in_a_case_far_off(self):
        self.check_apart(RING, with_word(with_prime(RING, 11), 2, 10, "a"), 3)
        self.check_apart(with_prime(RING, 7), with_word(with_prime(RING, 11), 2, 10, "a"), 3)

    def test_made_tables(self):
        texts = made_tables(22, 40, "ab")
        for one, other in zip(texts, texts[1:]):
            self.check_apart(one, other, parting_length(one, other))


class AnyTables(ApartCase):
    def test_made_small_tables(self):
        # With two cases each no row needs more than three locks, a shift and a sign to show where they part.
        chance = random.Random(211)
        seen = {}
        for turn in range(400):
            one = made_table(chance, 5, chance.randint(1, 2), "aab")
            other = one
            for change in range(chance.randint(0, 2)):
                cases = len(words_of(other))
                other = with_word(other, chance.randrange(cases), chance.randrange(5), chance.choice(words_for(other)))
            length = self.check_slowly(one, other, 5)
            seen[length] = seen.get(length, 0) + 1
        for length in (None, 1, 2, 3):
            self.assertGreater(seen.get(length, 0), 2, seen)

    def test_made_tables_with_words_changed(self):
        chance = random.Random(212)
        seen = {}
        for text in made_tables(213, 300, "ab"):
            cases, prime = len(words_of(text)), len(words_of(text)[0])
            other = with_word(text, chance.randrange(cases), chance.randrange(prime), chance.choice(words_for(text)))
            other = with_cases_in_order(other, [0] + chance.sample(range(1, cases), cases - 1))
            length = parting_length(text, other)
            self.check_apart(text, other, length)
            seen[length] = seen.get(length, 0) + 1
        for length in (None, 1, 2, 3):
            self.assertGreater(seen.get(length, 0), 5, seen)

    def test_made_tables_of_locks(self):
        # In each case the first symbol gives a or b, and two symbols lock: the rows grow long.
        chance = random.Random(214)
        longest = 0
        for turn in range(400):
            texts = []
            for cases in (chance.randint(3, 4), 4):
                rows = [f"{chance.choice('aaab')} lock{chance.randrange(cases)} lock{chance.randrange(cases)} - -"
                        for case in range(cases)]
                texts.append("\n".join(["symbols 5"] + rows))
            length = parting_length(*texts)
            self.check_apart(texts[0], texts[1], length)
            longest = max(longest, length or 0)
        self.assertGreater(longest, 3)

    def test_rows_are_the_askers_own_and_the_tables_stay(self):
        one, other = Table(RING), Table(with_word(RING, 2, 4, "c"))
        row = apart(one, other)
        row.append(0)
        row[0] = 9
        self.assertEqual(apart(one, other), [1, 1, 4])
        self.assertIsNot(apart(one, other), apart(one, other))
        self.assertEqual(one.shown(), RING)
        self.assertEqual(other.shown(), with_word(RING, 2, 4, "c"))
        self.assertEqual(one.read([1, 1, 0]), "c")
        self.assertEqual(apart(other, one), [1, 1, 4])
        self.assertIsNone(apart(other, other))


if __name__ == "__main__":
    unittest.main()
