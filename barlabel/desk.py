"""The desk: rows of words, each answered with a text."""

from barlabel.apart import apart
from barlabel.checks import labelled, mended
from barlabel.errors import NoForm, NoName
from barlabel.symbols import PRIMES
from barlabel.tables import Table
from barlabel.writing import written

LETTERS = "abcdefghijklmnopqrstuvwxyz"
FIGURES = "0123456789"
MOST_LETTERS = 8
MOST_FIGURES = 20

# How many words a row of the form has, its first one counted.
WORD_COUNTS = {"table": 3, "drop": 2, "show": 2, "write": 3, "apart": 3}
# Behind two words any number of others may follow.
OPEN_ENDED = ("read", "label", "mend")


def words_of(row):
    if not isinstance(row, str):
        raise NoForm()
    words = row.split(" ")
    if words[0] in OPEN_ENDED:
        fits = len(words) >= 2
    else:
        # All that follows the second blank is one word: as a text it may hold blanks, as a name it is none with them.
        words = row.split(" ", 2)
        fits = len(words) == WORD_COUNTS.get(words[0])
    if not fits:
        raise NoForm()
    return words


def consists_of(signs, most, word):
    return 1 <= len(word) <= most and all([sign in signs for sign in word])


def name_told(word):
    if not consists_of(LETTERS, MOST_LETTERS, word):
        raise NoForm()
    return word


def number_told(word):
    if not consists_of(FIGURES, MOST_FIGURES, word) or (word[0] == "0" and word != "0"):
        raise NoForm()
    return int(word)


def thing_told(word):
    return None if word == "-" else number_told(word)


def prime_told(word):
    number = number_told(word)
    if number not in PRIMES:
        raise NoForm()
    return number


def shown_row(row):
    return " ".join([str(symbol) for symbol in row]) if row else "none"


class Desk:
    def __init__(self):
        self.tables_by_name = {}

    # What a row's words tell is taken from all of them first, because another form is refused ahead of all else.
    def say(self, row):
        words = words_of(row)
        form = words[0]
        if form == "label":
            return shown_row(labelled(prime_told(words[1]), [number_told(word) for word in words[2:]]))
        if form == "mend":
            return shown_row(mended(prime_told(words[1]), [thing_told(word) for word in words[2:]]))
        name = name_told(words[1])
        if form == "table":
            return self.keep(name, words[2])
        if form == "write":
            return shown_row(written(self.table_by(name), words[2]))
        if form == "read":
            numbers = [number_told(word) for word in words[2:]]
            return self.table_by(name).read(numbers)
        if form == "apart":
            return self.parting(name, name_told(words[2]))
        if form == "show":
            return self.table_by(name).shown().replace("\n", ";")
        return self.drop(name)

    def table_by(self, name):
        if name not in self.tables_by_name:
            raise NoName()
        return self.tables_by_name[name]

    def keep(self, name, text):
        # Where the text is refused, an earlier table still stands.
        self.tables_by_name[name] = Table(text.replace(";", "\n"))
        return "ok"

    def drop(self, name):
        self.table_by(name)
        self.tables_by_name.pop(name)
        return "ok"

    def parting(self, name, other_name):
        row = apart(self.table_by(name), self.table_by(other_name))
        return "alike" if row is None else shown_row(row)
