"""The five steps: why each doesn't fit a tree, what it makes of one, and what leads back.

A tree is a dict: each file's name, and the list of its tokens. No step
changes the tree that it is applied to, nor a list in it: it makes another.
"""

from patchtexts.asnumbers import counted
from patchtexts.oneform import row_form

FITS = 0
NO_FILE = 1
BEYOND_END = 2
OTHER_TOKENS = 3
NAME_NOT_FREE = 4
NOT_EMPTY = 5


def with_file(tree, name, tokens):
    """Another tree, in which the file has these tokens."""
    made = dict(tree)
    made[name] = tokens
    return made


def without_file(tree, name):
    """Another tree, which doesn't have the file."""
    made = dict(tree)
    made.pop(name)
    return made


class Step:
    """What all steps share."""

    def idle(self):
        """Whether it could change no tree at all, so that it is no step."""
        return False

    def touched(self):
        """How many tokens it takes and puts."""
        return 0


class Hunk(Step):
    """New tokens in the place of old ones."""

    def __init__(self, name, place, old, new):
        self.name = name
        self.place = place
        self.old = old
        self.new = new

    def idle(self):
        return len(self.old) == 0 and len(self.new) == 0

    def why(self, tree):
        if self.name not in tree:
            return NO_FILE
        tokens = tree[self.name]
        if self.place > len(tokens):
            return BEYOND_END
        if tokens[self.place:self.place + len(self.old)] != self.old:
            return OTHER_TOKENS
        return FITS

    def applied(self, tree):
        tokens = tree[self.name]
        ahead = tokens[:self.place]
        behind = tokens[self.place + len(self.old):]
        return with_file(tree, self.name, ahead + self.new + behind)

    def touched(self):
        return len(self.old) + len(self.new)

    def turned(self):
        return Hunk(self.name, self.place, self.new, self.old)

    def form(self):
        return " ".join(["hunk", str(self.name), "at", str(self.place), row_form(self.old), row_form(self.new)])

    def as_numbers(self):
        return [0, self.name, self.place] + counted(self.old) + counted(self.new)


class Swap(Step):
    """Two tokens that become each other, wherever they stand in a file."""

    def __init__(self, name, first, second):
        self.name = name
        self.first = first
        self.second = second

    def idle(self):
        return self.first == self.second

    def why(self, tree):
        if self.name not in tree:
            return NO_FILE
        return FITS

    def swapped(self, token):
        if token == self.first:
            return self.second
        if token == self.second:
            return self.first
        return token

    def applied(self, tree):
        return with_file(tree, self.name, [self.swapped(token) for token in tree[self.name]])

    def turned(self):
        return self

    def form(self):
        return " ".join(["swap", str(self.name), str(self.first), str(self.second)])

    def as_numbers(self):
        return [1, self.name, self.first, self.second]


class Added(Step):
    """An empty file of a name that was free."""

    def __init__(self, name):
        self.name = name

    def why(self, tree):
        if self.name in tree:
            return NAME_NOT_FREE
        return FITS

    def applied(self, tree):
        return with_file(tree, self.name, [])

    def turned(self):
        return Removed(self.name)

    def form(self):
        return " ".join(["add", str(self.name)])

    def as_numbers(self):
        return [2, self.name]


class Removed(Step):
    """An empty file that goes."""

    def __init__(self, name):
        self.name = name

    def why(self, tree):
        if self.name not in tree:
            return NO_FILE
        if len(tree[self.name]) > 0:
            return NOT_EMPTY
        return FITS

    def applied(self, tree):
        return without_file(tree, self.name)

    def turned(self):
        return Added(self.name)

    def form(self):
        return " ".join(["remove", str(self.name)])

    def as_numbers(self):
        return [3, self.name]


class Moved(Step):
    """A file that gets another name."""

    def __init__(self, old_name, new_name):
        self.old_name = old_name
        self.new_name = new_name

    def idle(self):
        return self.old_name == self.new_name

    def why(self, tree):
        if self.old_name not in tree:
            return NO_FILE
        if self.new_name in tree:
            return NAME_NOT_FREE
        return FITS

    def applied(self, tree):
        return with_file(without_file(tree, self.old_name), self.new_name, tree[self.old_name])

    def turned(self):
        return Moved(self.new_name, self.old_name)

    def form(self):
        return " ".join(["move", str(self.old_name), str(self.new_name)])

    def as_numbers(self):
        return [4, self.old_name, self.new_name]
