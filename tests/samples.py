"""Tables and founts for the tests, and a second, slow way to find what the program must answer."""

import itertools
import random

PRIMES = [5, 7, 11, 13, 17, 19, 23, 29, 31, 37, 41, 43, 47]
SIGNS = "abcdefghijklmnopqrstuvwxyz0123456789"

# Case 0 has a lock and a shift to case 1, case 1 a lock back and one to itself.
PLAIN = "symbols 5\na b lock1 shift1 -\nc 7 lock0 lock1 a"
# Four cases, each kind of meaning from each case.
FULL = (
    "symbols 7\n"
    "a b lock1 shift2 shift0 - lock0\n"
    "c a lock2 shift3 shift0 lock1 -\n"
    "d 0 lock3 shift1 c - shift2\n"
    "9 z lock0 shift2 - e lock2"
)
# The locks make a ring of three cases; no sign stands in two of them.
RING = "symbols 5\na lock1 - - -\nb lock2 - - -\nc lock0 - - -"
# From case 1 no way leads back; a stands in both.
TRAP = "symbols 5\na c lock1 - -\na b - - -"
# Case 1 is near by a lock as well as by a shift.
EITHER = "symbols 5\na lock1 shift1 - -\nb c lock0 - -"
# The lock back from case 1 leads round by case 2.
ROUND = "symbols 5\na lock1 shift1 - -\nb lock2 - - -\nlock0 shift1 - c -"
# Just one case; a stands twice.
SINGLE = "symbols 5\na b a shift0 lock0"
# Case 1 has signs, but can't be come to.
APART = "symbols 5\na - - - lock0\nb shift0 - - -"
# a is nearer in case 2, but ahead of b it is better to shift for it from case 1.
FORKED = "symbols 5\nlock2 lock1 - - -\nb shift2 - - -\na lock0 - - c"

SMALL = [PLAIN, RING, TRAP, EITHER, ROUND, SINGLE, APART, FORKED]

NO_TEXTS = [None, True, False, 0, 1, 5, 2.5, b"ab", b"symbols 5\na b c d e", [], ["a"], ("a", "b"), {}, {"a": 1},
            set(), object(), str, ["symbols 5", "a b c d e"]]

# What is a symbol of no prime, of any kind.
NO_SYMBOLS = [True, False, None, "", "0", "a", [], [0], (0,), {}, 0.0, 1.0, 2.5, b"0", object(), int,
              -1, -2, -5, -47, 48, 10 ** 19, -10 ** 19]

# What is no whole number and no list of them, of any kind; some of it seems to be one.
NO_NUMBERS = [True, False, None, "", "4", 4.0, 6.0, 2.5, b"4", [], [4], (4,), {}, {4: 4}, set(), object(), int, list]

# The parts, the total, the start and the stop; they have 20, 44 and 216 patterns.
NARROW = (4, 7, [1, 2, 3, 1], [2, 1, 1, 3, 2])
BROAD = (4, 10, [4, 1, 1, 4], [1, 4, 4, 1, 1])
LONG = (6, 11, [2, 1, 1, 2, 1, 4], [2, 3, 3, 1, 1, 1, 2])
# As few and as many units as can be.
LEAST = (4, 4, [1, 1, 1, 1], [1, 1, 1, 1, 2])
MOST = (6, 24, [4, 4, 4, 4, 4, 4], [4, 4, 4, 4, 4, 4, 1])


def made_table(chance, prime, cases, signs):
    # Few locks and shifts, so that some cases can't be come to and some signs can't be written.
    words = [f"{kind}{case}" for kind in ("lock", "shift") for case in range(cases)]
    rows = [f"symbols {prime}"]
    for case in range(cases):
        row = ["-"] * prime
        for place in chance.sample(range(prime), chance.randint(1, min(prime, 7))):
            row[place] = chance.choice(words) if chance.random() < 0.5 else chance.choice(signs)
        rows.append(" ".join(row))
    return "\n".join(rows)


def made_tables(seed, count, signs):
    chance = random.Random(seed)
    return [made_table(chance, chance.choice(PRIMES), chance.randint(1, 4), signs) for turn in range(count)]


def made_texts(seed, count, most, signs):
    chance = random.Random(seed)
    return ["".join([chance.choice(signs) for turn in range(chance.randint(0, most))]) for turn in range(count)]


def made_row(chance, table_text, length):
    """A row that is read, perhaps of fewer symbols where none may follow."""
    words = words_of(table_text)
    row, ready, case, shifted = [], 0, 0, None
    while len(row) < length:
        here = words[case if shifted is None else shifted]
        symbols = [symbol for symbol, word in enumerate(here)
                   if word != "-" and (shifted is None or len(word) == 1)]
        if not symbols:
            break
        row.append(chance.choice(symbols))
        word = here[row[-1]]
        shifted = int(word[-1]) if word[:-1] == "shift" else None
        case = int(word[-1]) if word[:-1] == "lock" else case
        ready = len(row) if shifted is None else ready
    return row[:ready]


def words_of(table_text):
    return [row.split(" ") for row in table_text.split("\n")[1:]]


def next_states(words, text, state):
    """All states one symbol farther. A state: signs written, the case, the case of an open shift or None."""
    number, case, shifted = state
    found = set()
    for word in words[case if shifted is None else shifted]:
        if word[:-1] == "lock" and shifted is None:
            found.add((number, int(word[-1]), None))
        elif word[:-1] == "shift" and shifted is None:
            found.add((number, case, int(word[-1])))
        elif word != "-" and word == text[number:number + 1]:
            found.add((number + 1, case, None))
    return found


def distances(table_text, text, case):
    """The least number of symbols to each state, begun in the case, symbol by symbol."""
    words = words_of(table_text)
    steps = {(0, case, None): 0}
    border = [(0, case, None)]
    while border:
        farther = []
        for state in border:
            for following in sorted(next_states(words, text, state), key=repr):
                if following not in steps:
                    steps[following] = steps[state] + 1
                    farther.append(following)
        border = farther
    return steps


def least_symbols(table_text, text, case=0):
    steps = distances(table_text, text, case)
    ends = [steps[state] for state in steps if state[0] == len(text) and state[2] is None]
    return min(ends, default=None)


def expected_marks(table_text, text):
    cases = len(words_of(table_text))
    return [[least_symbols(table_text, text[number:], case) for case in range(cases)]
            for number in range(len(text) + 1)]


def first_unwritable(table_text, text):
    most = max(state[0] for state in distances(table_text, text, 0))
    return None if most == len(text) else most


def read_slowly(table_text, row):
    """The text, or the number of the symbol that can't be read."""
    words = words_of(table_text)
    case, number, text = 0, 0, ""
    while number < len(row):
        word = words[case][row[number]]
        if word[:-1] == "shift":
            number += 1
            if number == len(row):
                return number
            word = words[int(word[-1])][row[number]]
            if len(word) > 1:
                return number
        if word == "-":
            return number
        if word[:-1] == "lock":
            case = int(word[-1])
        else:
            text += word
        number += 1
    return text


def lists_of_widths(parts, total):
    """All lists gone through, in their order."""
    lists = [list(widths) for widths in itertools.product([1, 2, 3, 4], repeat=parts)]
    return [widths for widths in lists if sum(widths) == total]


def made_founts(seed):
    """For each number of parts and each total what makes a fount."""
    chance = random.Random(seed)
    made = []
    for parts in (4, 6):
        for total in range(parts, 4 * parts + 1):
            lists = lists_of_widths(parts, total)
            start, stop = None, []
            while start is None or stop[:0:-1] == start:
                start = list(chance.choice(lists))
                stop = chance.choice(lists) + [chance.randint(1, 4)]
            made.append((parts, total, start, stop))
    return made


def primes_for(parts, total):
    return [prime for prime in PRIMES if prime <= len(lists_of_widths(parts, total))]


def sums(prime, row):
    """The sum and the weighed sum, each by its rest."""
    plain, weighed = 0, 0
    for number in range(len(row)):
        plain = (plain + row[number]) % prime
        weighed = (weighed + (number + 1) * row[number]) % prime
    return plain, weighed


def with_changed(row, changes):
    return [changes.get(number, thing) for number, thing in enumerate(row)]


def label_slowly(prime, row):
    """The row with the two symbols behind it that make it good, found by trying all."""
    plain, weighed = sums(prime, row)
    for last_but_one in range(prime):
        for last in range(prime):
            whole = weighed + (len(row) + 1) * last_but_one + (len(row) + 2) * last
            if (plain + last_but_one + last) % prime == 0 and whole % prime == 0:
                return row + [last_but_one, last]
    raise AssertionError(row)


def labels_slowly(prime, room, row):
    """The labels on which the row is parted, the spare the last."""
    count = 1
    while count * room < len(row):
        count += 1
    labels = []
    for number in range(count):
        piece = row[number * room:][:room]
        labels.append(label_slowly(prime, [number, count, len(piece)] + piece + [0] * (room - len(piece))))
    spare = [count, count]
    for place in range(2, room + 3):
        rest = sum(label[place] for label in labels) % prime
        spare.append([symbol for symbol in range(prime) if rest + symbol in (0, prime)][0])
    return labels + [label_slowly(prime, spare)]
