"""What each step is told with, taken one by one from a reader.

The reader has a text's words or a list of numbers. Its take_number and
take_row take what comes next, or raise the reader's own error where that
may not stand there.
"""

from patchtexts.limits import MOST_HUNK_TOKENS
from patchtexts.limits import MOST_NAME
from patchtexts.limits import MOST_PLACE
from patchtexts.limits import MOST_TOKEN
from patchtexts.steps import Added
from patchtexts.steps import Hunk
from patchtexts.steps import Moved
from patchtexts.steps import Removed
from patchtexts.steps import Swap


def read_hunk_behind_name(reader, name):
    place = reader.take_number(MOST_PLACE)
    old = reader.take_row(MOST_HUNK_TOKENS)
    new = reader.take_row(MOST_HUNK_TOKENS)
    return Hunk(name, place, old, new)


def read_written_hunk(reader):
    name = reader.take_number(MOST_NAME)
    reader.take("at")
    return read_hunk_behind_name(reader, name)


def read_numbered_hunk(reader):
    return read_hunk_behind_name(reader, reader.take_number(MOST_NAME))


def read_swap(reader):
    name = reader.take_number(MOST_NAME)
    first = reader.take_number(MOST_TOKEN)
    second = reader.take_number(MOST_TOKEN)
    return Swap(name, first, second)


def read_added(reader):
    return Added(reader.take_number(MOST_NAME))


def read_removed(reader):
    return Removed(reader.take_number(MOST_NAME))


def read_moved(reader):
    old_name = reader.take_number(MOST_NAME)
    new_name = reader.take_number(MOST_NAME)
    return Moved(old_name, new_name)


READERS_BY_WORD = {
    "hunk": read_written_hunk,
    "swap": read_swap,
    "add": read_added,
    "remove": read_removed,
    "move": read_moved,
}
READERS_BY_NUMBER = (read_numbered_hunk, read_swap, read_added, read_removed, read_moved)
