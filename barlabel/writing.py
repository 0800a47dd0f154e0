"""Texts written as rows of as few symbols as can be."""

from barlabel.errors import NoWriting


def symbols_for(table, case, kind):
    found = {}
    for symbol in range(table.prime()):
        meaning = table.means(case, symbol)
        if meaning[0] == kind:
            found[meaning[1]] = symbol
    return found


# Nearer cases are walked first, so that the way found first to a case is a shortest one.
def shortest_lock_ways(table, start):
    ways = {start: []}
    waiting = [start]
    while waiting:
        case = waiting.pop(0)
        locks = symbols_for(table, case, "lock")
        for target in locks:
            if target not in ways:
                ways[target] = ways[case] + [locks[target]]
                waiting.append(target)
    return ways


# A stroke writes a sign and leaves the case as it is: behind a shift, too, the case is the earlier one again.
def shortest_strokes(table, case):
    strokes = {}
    shifts = symbols_for(table, case, "shift")
    for target in shifts:
        signs = symbols_for(table, target, "sign")
        for sign in signs:
            strokes[sign] = [shifts[target], signs[sign]]
    # These come last and stay, because a sign of the case itself needs no shift.
    signs = symbols_for(table, case, "sign")
    for sign in signs:
        strokes[sign] = [signs[sign]]
    return strokes


# A case without a mark is left out: from there the rest can't be written.
def best_target(leads, after):
    targets = [target for target in leads if after[target] is not None]
    return min(targets, key=lambda target: len(leads[target]) + after[target], default=None)


# Only locks change the case, so every row that writes a text is, sign by sign,
# a way of locks and then a stroke; a pen keeps the shortest of both.
class Pen:
    def __init__(self, table):
        self.ways = [shortest_lock_ways(table, case) for case in range(table.cases())]
        self.strokes = [shortest_strokes(table, case) for case in range(table.cases())]

    # One for each case to be in behind the sign, because the shortest by itself may make the rest longer.
    def leads(self, case, sign):
        ways = self.ways[case]
        found = {}
        for target in ways:
            if sign in self.strokes[target]:
                found[target] = ways[target] + self.strokes[target][sign]
        return found

    def mark(self, case, sign, after):
        leads = self.leads(case, sign)
        target = best_target(leads, after)
        return None if target is None else len(leads[target]) + after[target]

    def marks_of(self, text):
        cases = len(self.strokes)
        after = [0 for case in range(cases)]
        found = [after]
        for sign in reversed(text):
            after = [self.mark(case, sign, after) for case in range(cases)]
            found.append(after)
        found.reverse()
        return found

    def cases_behind(self, cases, sign):
        behind = {}
        for case in cases:
            behind.update(self.leads(case, sign))
        return list(behind)

    def first_unwritable(self, text):
        cases = [0]
        for number, sign in enumerate(text):
            cases = self.cases_behind(cases, sign)
            if not cases:
                return number
        return None

    def row_of(self, text):
        found = self.marks_of(text)
        row = []
        case = 0
        for number, sign in enumerate(text):
            leads = self.leads(case, sign)
            case = best_target(leads, found[number + 1])
            row.extend(leads[case])
        return row


def marks(table, text):
    return Pen(table).marks_of(text)


def written(table, text):
    if not isinstance(text, str):
        raise NoWriting(None)
    pen = Pen(table)
    number = pen.first_unwritable(text)
    if number is not None:
        raise NoWriting(number)
    return pen.row_of(text)
