"""Primes, whole numbers and symbols: what every other part asks of numbers handed in."""

from barlabel.errors import NoSymbol

PRIMES = (5, 7, 11, 13, 17, 19, 23, 29, 31, 37, 41, 43, 47)


# Python counts True and False among its ints; the document does not.
def is_whole(thing):
    return isinstance(thing, int) and not isinstance(thing, bool)


def is_symbol(prime, thing):
    return is_whole(thing) and 0 <= thing < prime


def check_symbols(prime, row):
    for number, thing in enumerate(row):
        if not is_symbol(prime, thing):
            raise NoSymbol(number)
