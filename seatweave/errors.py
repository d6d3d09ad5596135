"""What Seatweave refuses: one error for each refusal.

DealError is the kind that all of them share.
NoVotes: seats are to be dealt, and there are no votes to deal them by.
BadLine: a line of a text is not as it should be; its place, from 0, is in `line`.
NoTable: the lines of a text are good, but they make no table.
BadRule: a rule is asked for with numbers that make none.
"""


class DealError(ValueError):
    pass


class NoVotes(DealError):
    pass


class BadLine(DealError):
    def __init__(self, line):
        self.line = line


class NoTable(DealError):
    pass


class BadRule(DealError):
    pass
