"""The refusals."""


class RowsError(ValueError):
    pass


class BadTable(RowsError):
    def __init__(self, at):
        RowsError.__init__(self, f"this is no table: wrong at {at}")
        self.at = at


class BadQuestion(RowsError):
    def __init__(self, at):
        RowsError.__init__(self, f"this is no question: wrong at {at}")
        self.at = at


class BadHouse(RowsError):
    def __init__(self, table):
        RowsError.__init__(self, f"this house won't do: table {table!r}")
        self.table = table


class NoCover(RowsError):
    def __init__(self, column):
        RowsError.__init__(self, f"this is no cover: column {column!r}")
        self.column = column


class TooMany(RowsError):
    def __init__(self, most):
        RowsError.__init__(self, f"there are too many: at most {most}")
        self.most = most


class NoRing(RowsError):
    def __init__(self):
        RowsError.__init__(self, "this is no ring")


class NoEars(RowsError):
    def __init__(self):
        RowsError.__init__(self, "there are no such ears")


class NoAnswer(RowsError):
    def __init__(self):
        RowsError.__init__(self, "there is no such answer")


class NoText(RowsError):
    def __init__(self, row):
        RowsError.__init__(self, f"this is no such text: wrong at row {row}")
        self.row = row


class NoRow(RowsError):
    def __init__(self):
        RowsError.__init__(self, "the desk knows no such row")
