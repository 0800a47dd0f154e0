"""Checks: rows with two check symbols at their end, told as good, and mended."""

from barlabel.errors import Spoilt, TooLong
from barlabel.symbols import check_symbols

CHECK_SYMBOLS = 2


def plain_sum(prime, row):
    return sum(row) % prime


def weighed_sum(prime, row):
    return sum([place * symbol for place, symbol in enumerate(row, start=1)]) % prime


def is_good(prime, row):
    return plain_sum(prime, row) == 0 and weighed_sum(prime, row) == 0


# There is just one, because a divisor below a prime has no factor in common with it.
def quotient(prime, rest, divisor):
    return [symbol for symbol in range(prime) if symbol * divisor % prime == rest][0]


# Noughts stand at both numbers so far. With x and y there, at the places i and j, both x + y + sum and
# i * x + j * y + weighed sum must be 0; the latter less i times the former is (j - i) * y = i * sum - weighed sum.
def with_two_filled(prime, row, earlier, later):
    place = earlier + 1
    rest = (place * plain_sum(prime, row) - weighed_sum(prime, row)) % prime
    filled = list(row)
    filled[later] = quotient(prime, rest, later - earlier)
    filled[earlier] = -plain_sum(prime, filled) % prime
    return filled


# The row is not good. One symbol too great by the sum weighs its place times the sum too much;
# where the sum is 0, the weighed sum is not, and so no place is found.
def with_one_righted(prime, row):
    excess = plain_sum(prime, row)
    weight = weighed_sum(prime, row)
    for number, symbol in enumerate(row):
        if (number + 1) * excess % prime == weight:
            righted = list(row)
            righted[number] = (symbol - excess) % prime
            return righted
    raise Spoilt()


def labelled(prime, row):
    check_symbols(prime, row)
    length = len(row)
    if length > prime - CHECK_SYMBOLS:
        raise TooLong(length)
    return with_two_filled(prime, row + [0, 0], length, length + 1)


def mended(prime, things):
    # A nought in the place of an unreadable one adds nothing to either sum.
    row = [0 if thing is None else thing for thing in things]
    check_symbols(prime, row)
    if not CHECK_SYMBOLS <= len(row) <= prime:
        raise TooLong(len(row))
    unreadable = [number for number, thing in enumerate(things) if thing is None]
    if len(unreadable) > 2:
        raise Spoilt()
    if len(unreadable) == 2:
        return with_two_filled(prime, row, unreadable[0], unreadable[1])
    if len(unreadable) == 1:
        row[unreadable[0]] = -plain_sum(prime, row) % prime
    if is_good(prime, row):
        return row
    # A row with one filled has the sum 0, so it is refused here: no other symbol of it may be righted.
    return with_one_righted(prime, row)
