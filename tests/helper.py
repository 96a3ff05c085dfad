"""What the tests share: calls put together, answers taken apart."""

import unittest

from patchtexts.texts import answers

EXAMPLE = "file 0 { 1 2 3 } hunk 0 at 1 { 2 } { 7 8 }; swap 0 1 3; move 0 4;"

SHOWN = [1]
TOLD = [2]
GOES = [4]
TURNED = [6]
STEPS = [9]


def load(text):
    """The call load of a text, or of a list of bytes."""
    given = list(text.encode("ascii")) if isinstance(text, str) else list(text)
    return [0, len(given)] + given


def tree(n):
    return [3, n]


def why(n, step):
    return [5, n, len(step)] + step


def file(n, name):
    return [7, n, name]


def difference(other):
    return [8, len(other)] + other


def taken_apart(found):
    """The answers, each without its count."""
    each = []
    at = 0
    while at < len(found):
        end = at + 1 + found[at]
        each.append(found[at + 1:end])
        at = end
    return each


def as_shown(answer):
    """The text of an answer of shown; its count has to be right."""
    if answer[0] != len(answer) - 1:
        raise AssertionError(f"{answer[0]} bytes told, {len(answer) - 1} are there")
    return bytes(answer[1:]).decode("ascii")


class Case(unittest.TestCase):
    def ask(self, *calls):
        """The answers to the calls on one new object."""
        found = answers([number for call in calls for number in call])
        each = taken_apart(found)
        self.assertEqual(len(each), len(calls))
        self.assertTrue(all(isinstance(number, int) and not isinstance(number, bool) for number in found))
        return each

    def ask_of(self, text, *calls):
        """The answers to the calls behind a load of the text, which has to have no fault."""
        each = self.ask(load(text), *calls)
        self.assertEqual(each[0][:1], [0], text)
        return each[1:]

    def assert_fault(self, text, kind, place):
        """The text has this fault, and the text loaded ahead of it stays."""
        loaded, shown, faulty, still_shown = self.ask(load(EXAMPLE), SHOWN, load(text), SHOWN)
        self.assertEqual(loaded, [0, 1, 3])
        self.assertEqual(faulty, [1, kind, place], text)
        self.assertEqual(still_shown, shown)

    def assert_fault_at(self, marked, kind):
        """The same of a text in which the sign | stands ahead of the fault's place."""
        self.assertEqual(marked.count("|"), 1)
        self.assert_fault(marked.replace("|", ""), kind, marked.index("|"))
