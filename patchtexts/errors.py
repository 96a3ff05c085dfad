"""What is raised where a text has a fault or a call is refused."""

NO_WORD = 1
OUT_OF_ORDER = 2
TOO_HIGH = 3
TOO_MANY = 4
NAME_TWICE = 5
IDLE_STEP = 6


class Fault(Exception):
    """A text can't be read: the fault's kind, 1 to 6, and its place."""

    def __init__(self, kind, place):
        self.kind = kind
        self.place = place


class Refusal(Exception):
    """A call is refused: its whole answer is this number."""

    def __init__(self, answer):
        self.answer = answer


class TextTooLong(Refusal):
    """A text has more bytes than one may have."""

    def __init__(self):
        Refusal.__init__(self, -1)


class NoSuchName(Refusal):
    """No file can have the name that is asked for."""

    def __init__(self):
        Refusal.__init__(self, -2)


class NoSuchPlace(Refusal):
    """There are not as many steps as are asked for."""

    def __init__(self):
        Refusal.__init__(self, -3)


class StepDoesNotFit(Refusal):
    """One of the steps that lead to the tree asked for doesn't fit."""

    def __init__(self):
        Refusal.__init__(self, -4)


class NotWhole(Refusal):
    """The numbers that are handed over aren't whole a step, or a tree, within the limits of texts."""

    def __init__(self):
        Refusal.__init__(self, -5)


class NoText(Refusal):
    """No text has been loaded yet."""

    def __init__(self):
        Refusal.__init__(self, -8)
