"""Rolls: a row parted on labels, and gathered from them again though one is lost."""

from barlabel.checks import is_good, labelled
from barlabel.errors import Lost, Mixed, NoLabel, NoRoom, TooLong
from barlabel.symbols import PRIMES, check_symbols, is_symbol, is_whole

# The length stands behind a label's number and the count of pieces, the piece behind its length.
LENGTH_AT = 2
PIECE_AT = 3
# What a label has besides its room: three symbols ahead of it, two check symbols behind.
BESIDES = 5


def is_roll(prime, room):
    if not is_whole(prime) or prime not in PRIMES:
        return False
    return is_whole(room) and 1 <= room <= prime - BESIDES


# A row without symbols is one piece, too.
def pieces_of(row, room):
    return [row[first:first + room] for first in range(0, max(1, len(row)), room)]


def labels_by_number(labels):
    found = {}
    for number, label in enumerate(labels):
        if label[1] != labels[0][1] or found.setdefault(label[0], label) != label:
            raise Mixed(number)
    return found


class Roll:
    def __init__(self, prime, room):
        if not is_roll(prime, room):
            raise NoRoom()
        self.size = prime
        self.room = room

    def parted(self, row):
        check_symbols(self.size, row)
        pieces = pieces_of(row, self.room)
        count = len(pieces)
        # The count must be a symbol itself.
        if count >= self.size:
            raise TooLong(len(row))
        labels = [self.piece_label(number, count, piece) for number, piece in enumerate(pieces)]
        labels.append(self.balance(count, count, labels))
        return labels

    def piece_label(self, number, count, piece):
        noughts = [0] * (self.room - len(piece))
        return labelled(self.size, [number, count, len(piece)] + piece + noughts)

    # The spare balances all pieces' labels; so a lost one, in turn, is what balances the spare and the others.
    def balance(self, number, count, others):
        row = [number, count]
        for place in range(LENGTH_AT, PIECE_AT + self.room):
            row.append(-sum([label[place] for label in others]) % self.size)
        return labelled(self.size, row)

    def is_label(self, thing):
        if not isinstance(thing, list) or len(thing) != self.room + BESIDES:
            return False
        if not all([is_symbol(self.size, symbol) for symbol in thing]) or not is_good(self.size, thing):
            return False
        return thing[1] != 0 and thing[0] <= thing[1]

    def check_labels(self, labels):
        for number, thing in enumerate(labels):
            if not self.is_label(thing):
                raise NoLabel(number)

    def completed(self, labels):
        found = labels_by_number(labels)
        if not labels:
            raise Lost([])
        count = labels[0][1]
        lacking = [number for number in range(count + 1) if number not in found]
        if len(lacking) > 1:
            raise Lost(lacking)
        if lacking:
            found[lacking[0]] = self.balance(lacking[0], count, list(found.values()))
        return [list(found[number]) for number in range(count + 1)]

    def all_labels(self, labels):
        self.check_labels(labels)
        found = self.completed(labels)
        # The spare has no piece, so its length is nobody's.
        if any([label[LENGTH_AT] > self.room for label in found[:-1]]):
            raise Mixed(None)
        return found

    def gathered(self, labels):
        row = []
        for label in self.all_labels(labels)[:-1]:
            row.extend(label[PIECE_AT:PIECE_AT + label[LENGTH_AT]])
        return row
