"""What the tests share: calls put together, answers taken apart."""

import unittest

from patchtexts.texts import answers

EXAMPLE = "file 0 { 1 2 3 } hunk 0 at 1 { 2 } { 7 8 }; swap 0 1 3; move 0 4;"

SHOWN = [1]
TOLD = [2]
GOES = [4]
TURNED = [6]
STEPS = [9]

FAR = 10 ** 18


def load(text):
    """The call load of a text, or of a list of bytes."""
    given = list(text.encode("ascii")) if isinstance(text, str) else list(text)
    return [0, len(given)] + given


def tree(n):
    return [3, n]


def why(n, step):
    return [5, n, len(step)] + step


def file(n, name):
    return [7, n, name]


def difference(other):
    return [8, len(other)] + other


def tree_numbers(files):
    """The tree, a dict of names and tokens, as numbers."""
    told = [len(files)]
    for name in sorted(files):
        told += [name, len(files[name])] + list(files[name])
    return told


def tree_text(files):
    """The tree as a text with as few blanks as can be."""
    parts = []
    for name in sorted(files):
        parts.append(f"file{name}{{" + " ".join(str(token) for token in files[name]) + "}")
    return "".join(parts)


def steps_apart(row):
    """The steps of a row told as numbers, each as a list of numbers."""
    steps = []
    at = 1
    while at < len(row):
        length = {1: 4, 2: 2, 3: 2, 4: 3}.get(row[at])
        if length is None:
            old_count = row[at + 3]
            length = 5 + old_count + row[at + 4 + old_count]
        steps.append(row[at:at + length])
        at += length
    if row[0] != len(steps) or at != len(row):
        raise AssertionError(f"{row[0]} steps told, {len(steps)} are there: {row}")
    return steps


def made_of(files, steps):
    """What hunks, files added and files removed, told as numbers, make of the tree; each has to fit."""
    made = {name: list(files[name]) for name in files}
    for step in steps:
        name = step[1]
        if step[0] == 2:
            if name in made:
                raise AssertionError(f"{step} doesn't fit {made}")
            made[name] = []
        elif step[0] == 3:
            if made.pop(name) != []:
                raise AssertionError(f"{step} doesn't fit {made}")
        else:
            place = step[2]
            old = step[4:4 + step[3]]
            if place > len(made[name]) or made[name][place:place + len(old)] != old:
                raise AssertionError(f"{step} doesn't fit {made}")
            made[name][place:place + len(old)] = step[5 + len(old):]
    return made


def taken_apart(found):
    """The answers, each without its count."""
    each = []
    at = 0
    while at < len(found):
        end = at + 1 + found[at]
        each.append(found[at + 1:end])
        at = end
    return each


def as_shown(answer):
    """The text of an answer of shown; its count has to be right."""
    if answer[0] != len(answer) - 1:
        raise AssertionError(f"{answer[0]} bytes told, {len(answer) - 1} are there")
    return bytes(answer[1:]).decode("ascii")


class Case(unittest.TestCase):
    def ask(self, *calls):
        """The answers to the calls on one new object."""
        handed_in = [number for call in calls for number in call]
        # The interface hands in no longer lists than these.
        self.assertLessEqual(len(calls), 60)
        self.assertLessEqual(len(handed_in), 17000)
        found = answers(handed_in)
        each = taken_apart(found)
        self.assertEqual(len(each), len(calls))
        self.assertTrue(all(isinstance(number, int) and not isinstance(number, bool) for number in found))
        return each

    def ask_of(self, text, *calls):
        """The answers to the calls behind a load of the text, which has to have no fault."""
        each = self.ask(load(text), *calls)
        self.assertEqual(each[0][:1], [0], text)
        return each[1:]

    def assert_fault(self, text, kind, place):
        """The text has this fault, and the text loaded ahead of it stays."""
        loaded, shown, faulty, still_shown = self.ask(load(EXAMPLE), SHOWN, load(text), SHOWN)
        self.assertEqual(loaded, [0, 1, 3])
        self.assertEqual(faulty, [1, kind, place], text)
        self.assertEqual(still_shown, shown)

    def assert_fault_at(self, marked, kind):
        """The same of a text in which the sign | stands ahead of the fault's place."""
        self.assertEqual(marked.count("|"), 1)
        self.assert_fault(marked.replace("|", ""), kind, marked.index("|"))
