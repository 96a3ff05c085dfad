"""Takes a list of calls apart."""

LOAD = 0
SHOWN = 1
TOLD = 2
TREE = 3
GOES = 4
WHY = 5
TURNED = 6
FILE = 7
DIFFERENCE = 8

# By a call's number: how many single numbers it has, and whether it has a row behind them.
SINGLES = (0, 0, 0, 1, 0, 1, 0, 2, 0, 0)
HAS_ROW = (True, False, False, False, False, True, False, False, True, False)


class Call:
    """A call: its number, its single numbers, its row (empty where it has none)."""

    def __init__(self, which, singles, row):
        self.which = which
        self.singles = singles
        self.row = row


def read_calls(calls):
    """The calls of the list, in their order."""
    found = []
    at = 0
    while at < len(calls):
        which = calls[at]
        end = at + 1 + SINGLES[which]
        singles = calls[at + 1:end]
        row = []
        if HAS_ROW[which]:
            begin = end + 1
            end = begin + calls[end]
            row = calls[begin:end]
        found.append(Call(which, singles, row))
        at = end
    return found
