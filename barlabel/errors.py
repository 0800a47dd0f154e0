"""The refusals, each of its own class, and the fields that tell more of them."""


class LabelError(ValueError):
    pass


class NoTable(LabelError):
    def __init__(self, row):
        LabelError.__init__(self, f"no text of a table: row {row}")
        self.row = row


class NoSymbol(LabelError):
    def __init__(self, number):
        LabelError.__init__(self, f"no symbol: number {number}")
        self.number = number


class NoReading(LabelError):
    def __init__(self, number):
        LabelError.__init__(self, f"not to be read: number {number}")
        self.number = number


class NoWriting(LabelError):
    def __init__(self, number):
        LabelError.__init__(self, f"not to be written: number {number}")
        self.number = number


class TooLong(LabelError):
    def __init__(self, length):
        LabelError.__init__(self, f"a length that does not fit: {length}")
        self.length = length


class Spoilt(LabelError):
    pass


class NoFount(LabelError):
    pass


class NoLabel(LabelError):
    # Widths and edges stand in no list of labels, so they have no number to tell.
    def __init__(self, number=None):
        LabelError.__init__(self, f"no label: number {number}")
        self.number = number


class NoRoom(LabelError):
    pass


class Mixed(LabelError):
    def __init__(self, number):
        LabelError.__init__(self, f"labels that do not belong together: number {number}")
        self.number = number


class Lost(LabelError):
    def __init__(self, numbers):
        LabelError.__init__(self, f"labels lost: {numbers}")
        self.numbers = list(numbers)


class NoForm(LabelError):
    pass


class NoName(LabelError):
    pass
