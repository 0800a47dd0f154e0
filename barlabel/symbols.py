"""Primes, whole numbers and symbols: what every other part asks of numbers handed in."""

from barlabel.errors import NoSymbol

PRIMES = (5, 7, 11, 13, 17, 19, 23, 29, 31, 37, 41, 43, 47)


# Python counts True and False among its ints; the document does not.
def is_whole(thing):
    return isinstance(thing, int) and not isinstance(thing, bool)


# There are as many symbols as the prime tells or, where a row is printed, as a fount has patterns.
def is_symbol(count, thing):
    return is_whole(thing) and 0 <= thing < count


def check_symbols(count, row):
    for number, thing in enumerate(row):
        if not is_symbol(count, thing):
            raise NoSymbol(number)
