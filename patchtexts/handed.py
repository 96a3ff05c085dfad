"""Reads a step or a tree that is handed over as numbers."""

from patchtexts.errors import NotWhole
from patchtexts.limits import MOST_FILE_TOKENS
from patchtexts.limits import MOST_NAME
from patchtexts.limits import MOST_TOKEN
from patchtexts.stepreaders import READERS_BY_NUMBER


class Numbers:
    """Takes a list's numbers one by one."""

    def __init__(self, numbers):
        self.numbers = numbers
        self.passed = 0

    def take_number(self, most):
        if self.passed == len(self.numbers):
            raise NotWhole()
        number = self.numbers[self.passed]
        if number < 0 or number > most:
            raise NotWhole()
        self.passed += 1
        return number

    def take_row(self, most):
        """The tokens of a row that has how many they are ahead of them."""
        count = self.take_number(most)
        tokens = []
        while len(tokens) < count:
            tokens.append(self.take_number(MOST_TOKEN))
        return tokens

    def take_end(self):
        if self.passed < len(self.numbers):
            raise NotWhole()


def read_handed_step(given):
    numbers = Numbers(given)
    which = numbers.take_number(len(READERS_BY_NUMBER) - 1)
    step = READERS_BY_NUMBER[which](numbers)
    numbers.take_end()
    if step.idle():
        raise NotWhole()
    return step


def read_handed_tree(given):
    numbers = Numbers(given)
    # Names rise from 0 on, so there can't be more files than names.
    count = numbers.take_number(MOST_NAME + 1)
    tree = {}
    least_name = 0
    while len(tree) < count:
        name = numbers.take_number(MOST_NAME)
        if name < least_name:
            raise NotWhole()
        tree[name] = numbers.take_row(MOST_FILE_TOKENS)
        least_name = name + 1
    numbers.take_end()
    return tree
