"""Tables apart: whether two tables read all rows alike, or a shortest row on which they part."""

from barlabel.tables import BEGINNING


# A place that is None stands for a row already refused: whatever follows, it stays so.
def step_of(table, place, symbol):
    if place is None or symbol >= table.prime():
        return (None, "")
    return table.behind(place, symbol)


# What the last symbol of a row that is read gives, perhaps no sign; None where the row, ended here, is refused.
def given(step):
    if step[0] is None or step[0][1] is not None:
        return None
    return step[1]


# Rows are gone through by their length. Wherever no shift is open a row may end and is read, so two tables that have
# not parted yet have given the same signs so far: their places alone tell how they may part farther on.
def apart(one, other):
    symbol_count = max(one.prime(), other.prime())
    begun = (BEGINNING, BEGINNING)
    rows = {begun: []}
    waiting = [begun]
    while waiting:
        places = waiting.pop(0)
        for symbol in range(symbol_count):
            row = rows[places] + [symbol]
            step = step_of(one, places[0], symbol)
            other_step = step_of(other, places[1], symbol)
            if given(step) != given(other_step):
                return row
            following = (step[0], other_step[0])
            if following not in rows:
                rows[following] = row
                waiting.append(following)
    return None
