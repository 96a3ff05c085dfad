"""Reads a text's tree and its row of steps."""

from patchtexts.errors import Fault
from patchtexts.errors import IDLE_STEP
from patchtexts.errors import NAME_TWICE
from patchtexts.errors import OUT_OF_ORDER
from patchtexts.errors import TOO_HIGH
from patchtexts.errors import TOO_MANY
from patchtexts.limits import MOST_FILE_TOKENS
from patchtexts.limits import MOST_NAME
from patchtexts.limits import MOST_STEPS
from patchtexts.limits import MOST_TOKEN
from patchtexts.stepreaders import READERS_BY_WORD
from patchtexts.words import cut_into_words


class Text:
    """What a text holds: its tree, and its steps in their order."""

    def __init__(self, tree, steps):
        self.tree = tree
        self.steps = steps


class Reader:
    """Takes a text's words one by one."""

    def __init__(self, words):
        self.words = words
        self.taken = 0

    def ahead(self):
        """The word that comes next. The text's end is never taken, so there is always one."""
        return self.words[self.taken]

    def take(self, written):
        word = self.ahead()
        if word.written != written:
            raise Fault(OUT_OF_ORDER, word.place)
        self.taken += 1

    def take_number(self, most):
        word = self.ahead()
        if not word.written.isdigit():
            raise Fault(OUT_OF_ORDER, word.place)
        worth = int(word.written)
        if worth > most:
            raise Fault(TOO_HIGH, word.place)
        self.taken += 1
        return worth

    def take_row(self, most):
        self.take("{")
        tokens = []
        while self.ahead().written != "}":
            place = self.ahead().place
            token = self.take_number(MOST_TOKEN)
            # Only now: of two faults at one place the lesser one counts.
            if len(tokens) == most:
                raise Fault(TOO_MANY, place)
            tokens.append(token)
        self.take("}")
        return tokens


def read_files(reader):
    """The text's tree."""
    tree = {}
    while reader.ahead().written == "file":
        reader.take("file")
        place = reader.ahead().place
        name = reader.take_number(MOST_NAME)
        if name in tree:
            raise Fault(NAME_TWICE, place)
        tree[name] = reader.take_row(MOST_FILE_TOKENS)
    return tree


def read_step(reader, steps_ahead):
    """The next step, without its semicolon."""
    word = reader.ahead()
    if word.written not in READERS_BY_WORD:
        raise Fault(OUT_OF_ORDER, word.place)
    if steps_ahead == MOST_STEPS:
        raise Fault(TOO_MANY, word.place)
    reader.take(word.written)
    step = READERS_BY_WORD[word.written](reader)
    if step.idle():
        raise Fault(IDLE_STEP, word.place)
    return step


def read_text(text):
    """The Text that the bytes stand for; raises the Fault that counts if there is one."""
    # All of it is cut ahead of the reading: a fault of the words counts ahead of all others.
    reader = Reader(cut_into_words(text))
    tree = read_files(reader)
    steps = []
    while reader.ahead().written != "":
        steps.append(read_step(reader, len(steps)))
        reader.take(";")
    return Text(tree, steps)
