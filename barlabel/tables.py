"""Tables: what each symbol means in each case, and rows read by it."""

from barlabel.errors import NoReading, NoTable
from barlabel.symbols import PRIMES, check_symbols

SIGNS = "abcdefghijklmnopqrstuvwxyz0123456789"
MOST_ROWS = 5
# A place in a reading is the case and, where a shift is open, the shift's case.
BEGINNING = (0, None)


# Whole rows are compared, so that no nought, blank or sign of a number slips through.
def prime_told(first):
    for prime in PRIMES:
        if first == f"symbols {prime}":
            return prime
    raise NoTable(0)


def meanings_of_words(cases):
    meanings = {"-": ("nothing", None)}
    for sign in SIGNS:
        meanings[sign] = ("sign", sign)
    for case in range(cases):
        meanings[f"lock{case}"] = ("lock", case)
        meanings[f"shift{case}"] = ("shift", case)
    return meanings


def rows_of(text):
    if not isinstance(text, str):
        raise NoTable(None)
    return text.split("\n")


def check_row_count(rows):
    if len(rows) > MOST_ROWS:
        raise NoTable(MOST_ROWS)
    if len(rows) == 1:
        raise NoTable(1)


def meanings_of_rows(prime, rows):
    words = meanings_of_words(len(rows) - 1)
    found = []
    for number in range(1, len(rows)):
        row = rows[number].split(" ")
        if len(row) != prime or not all([word in words for word in row]):
            raise NoTable(number)
        found.append([words[word] for word in row])
    return found


class Table:
    def __init__(self, text):
        rows = rows_of(text)
        self.size = prime_told(rows[0])
        check_row_count(rows)
        self.meanings = meanings_of_rows(self.size, rows)
        # A table has just one text, so the one handed in is also the one to show.
        self.text = text

    def prime(self):
        return self.size

    def cases(self):
        return len(self.meanings)

    def means(self, case, symbol):
        meaning = self.meanings[case][symbol]
        return (meaning[0], meaning[1])

    def shown(self):
        return self.text

    # The place behind the symbol, None where the symbol can't be read here; and the sign given, perhaps none.
    def behind(self, place, symbol):
        case = place[0]
        shifted = place[1]
        meaning = self.meanings[case if shifted is None else shifted][symbol]
        if meaning[0] == "sign":
            return ((case, None), meaning[1])
        if meaning[0] == "nothing" or shifted is not None:
            return (None, "")
        if meaning[0] == "lock":
            return ((meaning[1], None), "")
        return ((case, meaning[1]), "")

    def read(self, row):
        check_symbols(self.size, row)
        signs = []
        place = BEGINNING
        for number, symbol in enumerate(row):
            step = self.behind(place, symbol)
            if step[0] is None:
                raise NoReading(number)
            place = step[0]
            signs.append(step[1])
        if place[1] is not None:
            raise NoReading(len(row))
        return "".join(signs)
