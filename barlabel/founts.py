"""Founts: symbols as patterns of widths, printed and looked at."""

from barlabel.errors import NoFount, NoLabel
from barlabel.symbols import check_symbols, is_whole

PARTS = (4, 6)
WIDEST = 4


def are_widths(count, things):
    if not isinstance(things, list) or len(things) != count:
        return False
    return all([is_whole(thing) and 1 <= thing <= WIDEST for thing in things])


def turned(widths):
    return list(reversed(widths))


# Each condition leans on those ahead of it, so that things of any kind may be handed in.
# The total's bounds need no asking: the start's widths come to nothing outside of them.
def is_fount(parts, total, start, stop):
    if not is_whole(parts) or parts not in PARTS or not is_whole(total):
        return False
    if not are_widths(parts, start) or not are_widths(parts + 1, stop):
        return False
    if sum(start) != total or sum(stop[:parts]) != total:
        return False
    return turned(stop)[:parts] != start


# A first width's patterns stand together, the narrowest width first: this is the order of lists.
def patterns_of(parts, total):
    if not parts <= total <= WIDEST * parts:
        return []
    if parts == 0:
        return [[]]
    found = []
    for width in range(1, WIDEST + 1):
        for rest in patterns_of(parts - 1, total - width):
            found.append([width] + rest)
    return found


# Start and stop are two stretches; the stop's last width is left over and stands in none.
def stretches_in(parts, width_count):
    stretches = width_count // parts
    if stretches < 2 or width_count != stretches * parts + 1:
        raise NoLabel()
    return stretches


class Fount:
    def __init__(self, parts, total, start, stop):
        if not is_fount(parts, total, start, stop):
            raise NoFount()
        self.part_count = parts
        self.widths_sum = total
        self.opening = list(start)
        self.closing = list(stop)
        self.shapes = patterns_of(parts, total)
        self.symbols_by_shape = {}
        for symbol, shape in enumerate(self.shapes):
            self.symbols_by_shape[tuple(shape)] = symbol

    def parts(self):
        return self.part_count

    def total(self):
        return self.widths_sum

    def start(self):
        return list(self.opening)

    def stop(self):
        return list(self.closing)

    def patterns(self):
        return [list(shape) for shape in self.shapes]

    def printed(self, row):
        check_symbols(len(self.shapes), row)
        widths = list(self.opening)
        for symbol in row:
            widths.extend(self.shapes[symbol])
        return widths + self.closing

    def looked(self, prime, widths):
        stretches = stretches_in(self.part_count, len(widths))
        for seen in (widths, turned(widths)):
            if self.is_framed(seen):
                return [self.thing_at(prime, seen, number) for number in range(1, stretches - 1)]
        raise NoLabel()

    def is_framed(self, widths):
        begins = widths[:len(self.opening)] == self.opening
        return begins and widths[-len(self.closing):] == self.closing

    # A fount may have more patterns than the prime has symbols.
    def thing_at(self, prime, widths, number):
        first = number * self.part_count
        symbol = self.symbols_by_shape.get(tuple(widths[first:first + self.part_count]))
        return None if symbol is None or symbol >= prime else symbol
