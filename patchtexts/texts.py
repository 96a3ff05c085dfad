"""Answers calls on one object that holds a text."""

from patchtexts.asnumbers import counted
from patchtexts.asnumbers import steps_numbers
from patchtexts.asnumbers import tree_numbers
from patchtexts.calls import DIFFERENCE
from patchtexts.calls import FILE
from patchtexts.calls import GOES
from patchtexts.calls import LOAD
from patchtexts.calls import SHOWN
from patchtexts.calls import TOLD
from patchtexts.calls import TREE
from patchtexts.calls import TURNED
from patchtexts.calls import WHY
from patchtexts.calls import read_calls
from patchtexts.differences import difference_steps
from patchtexts.errors import Fault
from patchtexts.errors import NoSuchName
from patchtexts.errors import NoSuchPlace
from patchtexts.errors import NoText
from patchtexts.errors import Refusal
from patchtexts.errors import StepDoesNotFit
from patchtexts.errors import TextTooLong
from patchtexts.handed import read_handed_step
from patchtexts.handed import read_handed_tree
from patchtexts.limits import MOST_BYTES
from patchtexts.limits import MOST_NAME
from patchtexts.oneform import files_form
from patchtexts.oneform import steps_form
from patchtexts.reading import read_text
from patchtexts.steps import FITS
from patchtexts.walks import turned_round
from patchtexts.walks import walk_through


class Holder:
    """The object that the calls are on: it holds the text that was loaded last, None ahead of the first one."""

    def __init__(self):
        self.text = None

    def load(self, given):
        if len(given) > MOST_BYTES:
            raise TextTooLong()
        try:
            self.text = read_text(given)
        except Fault as fault:
            return [1, fault.kind, fault.place]
        return [0, len(self.text.tree), len(self.text.steps)]

    def loaded(self):
        if self.text is None:
            raise NoText()
        return self.text


def counted_bytes(form):
    return counted([ord(sign) for sign in form])


def shown(text):
    return counted_bytes(files_form(text.tree) + steps_form(text.steps))


def told(text):
    return tree_numbers(text.tree) + steps_numbers(text.steps)


def tree_behind(text, n):
    """The tree behind the text's first n steps."""
    if n < 0 or n > len(text.steps):
        raise NoSuchPlace()
    walk = walk_through(text.tree, text.steps[:n])
    if walk.reason != FITS:
        raise StepDoesNotFit()
    return walk.tree


def goes(text):
    walk = walk_through(text.tree, text.steps)
    return [walk.fitting, walk.reason]


def why(text, n, given):
    tree = tree_behind(text, n)
    step = read_handed_step(given)
    return [step.why(tree)]


def turned(text):
    return counted_bytes(steps_form(turned_round(text.steps)))


def file_behind(text, n, name):
    tree = tree_behind(text, n)
    if name < 0 or name > MOST_NAME:
        raise NoSuchName()
    if name not in tree:
        return [0]
    return [1] + counted(tree[name])


def difference(text, given):
    found = difference_steps(text.tree, read_handed_tree(given))
    return [sum([step.touched() for step in found])] + steps_numbers(found)


def answer_of_text(text, call):
    """The answer to any call but load."""
    if call.which == SHOWN:
        return shown(text)
    if call.which == TOLD:
        return told(text)
    if call.which == TREE:
        return tree_numbers(tree_behind(text, call.singles[0]))
    if call.which == GOES:
        return goes(text)
    if call.which == WHY:
        return why(text, call.singles[0], call.row)
    if call.which == TURNED:
        return turned(text)
    if call.which == FILE:
        return file_behind(text, call.singles[0], call.singles[1])
    if call.which == DIFFERENCE:
        return difference(text, call.row)
    # No other call is left but steps.
    return steps_numbers(turned_round(text.steps))


def answer(holder, call):
    """The numbers that the call answers, of a refusal its number alone."""
    try:
        if call.which == LOAD:
            return holder.load(call.row)
        return answer_of_text(holder.loaded(), call)
    except Refusal as refusal:
        return [refusal.answer]


def answers(calls):
    """The answers to the calls, each with how many numbers it has ahead of it."""
    holder = Holder()
    found = []
    for call in read_calls(calls):
        found.extend(counted(answer(holder, call)))
    return found
