"""What the court refuses with: one class for each kind of refusal."""


class CourtError(ValueError):
    """Any refusal of the court."""


class NoSentence(CourtError):
    """A text without a reading."""


class NoJoin(CourtError):
    """Two arguments that can't be joined at a line."""


class NoOrder(CourtError):
    """An order by which an argument can't be renumbered."""


class NoTurn(CourtError):
    """An argument that no argument is turned to."""


class Twice(CourtError):
    """A name that is kept already."""


class TwoReadings(CourtError):
    """A sentence with several readings: the first two of them, as forms."""

    def __init__(self, one, other):
        super().__init__("the sentence has two readings")
        self.one = one
        self.other = other


class NoText(CourtError):
    """A text that is no argument's: the row, from 0 on, where this shows."""

    def __init__(self, row):
        super().__init__(f"no argument's text, at row {row}")
        self.row = row


class Lacks(CourtError):
    """An argument with a line that isn't right: the number of the line."""

    def __init__(self, line):
        super().__init__(f"line {line} lacks what makes it right")
        self.line = line


class TooGreat(CourtError):
    """More than is looked through: how many there are, and the most there may be."""

    def __init__(self, many, most):
        super().__init__(f"{many} are more than {most}")
        self.many = many
        self.most = most
