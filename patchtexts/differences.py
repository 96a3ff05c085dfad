"""Finds the steps from one tree to another that touch the fewest tokens."""

from patchtexts.limits import MOST_HUNK_TOKENS
from patchtexts.steps import Added
from patchtexts.steps import Hunk
from patchtexts.steps import Removed


class Run:
    """What is taken and put between two common tokens, and the place in the first row where it begins."""

    def __init__(self, place):
        self.place = place
        self.taken = []
        self.put = []

    def length(self):
        return max(len(self.taken), len(self.put))


def counts_from_token(token, second, counts_behind):
    """The row of common_counts for this token, where counts_behind is the one for what stands behind it."""
    counts = [0] * (len(second) + 1)
    for place in range(len(second) - 1, -1, -1):
        if token == second[place]:
            counts[place] = counts_behind[place + 1] + 1
        else:
            counts[place] = max(counts_behind[place], counts[place + 1])
    return counts


def common_counts(first, second):
    """How many tokens, in order and at most, both rows have in common from two places on.

    It has a row for each place in the first one, its end among them, and in
    this a number for each place in the second one, its end among them.
    """
    table = [[0] * (len(second) + 1)]
    for token in reversed(first):
        table.append(counts_from_token(token, second, table[-1]))
    return list(reversed(table))


def common_here(first, second, at_first, at_second):
    """Whether both rows go on with the same token."""
    if at_first == len(first) or at_second == len(second):
        return False
    return first[at_first] == second[at_second]


def taken_here(common, at_first, at_second):
    """Whether the first row's token is taken, where the rows don't go on alike; else the second one's is put."""
    if at_first == len(common) - 1:
        return False
    if at_second == len(common[at_first]) - 1:
        return True
    return common[at_first + 1][at_second] >= common[at_first][at_second + 1]


def runs_between(first, second):
    """The runs in which the rows of tokens differ, in their order."""
    common = common_counts(first, second)
    runs = [Run(0)]
    at_first = 0
    at_second = 0
    while at_first < len(first) or at_second < len(second):
        if common_here(first, second, at_first, at_second):
            at_first += 1
            at_second += 1
            runs.append(Run(at_first))
        elif taken_here(common, at_first, at_second):
            runs[-1].taken.append(first[at_first])
            at_first += 1
        else:
            runs[-1].put.append(second[at_second])
            at_second += 1
    return [run for run in runs if run.length() > 0]


def hunks_of_run(name, run):
    """The run as hunks of the file, none of them with more tokens than one may have."""
    hunks = []
    place = run.place
    for begin in range(0, run.length(), MOST_HUNK_TOKENS):
        end = begin + MOST_HUNK_TOKENS
        hunk = Hunk(name, place, run.taken[begin:end], run.put[begin:end])
        hunks.append(hunk)
        place += len(hunk.new)
    return hunks


def hunks_between(name, first, second):
    """The hunks that make the second row of tokens of the file's first one."""
    hunks = []
    # The last run first, so that the places of those ahead of it stay what they are in the first row.
    for run in reversed(runs_between(first, second)):
        hunks.extend(hunks_of_run(name, run))
    return hunks


def file_steps(name, tree, other):
    """The steps for a file that is in one of the trees or in both."""
    if name not in other:
        return hunks_between(name, tree[name], []) + [Removed(name)]
    if name not in tree:
        return [Added(name)] + hunks_between(name, [], other[name])
    return hunks_between(name, tree[name], other[name])


def difference_steps(tree, other):
    """The difference from the tree to the other one."""
    steps = []
    for name in sorted(set(tree) | set(other)):
        steps.extend(file_steps(name, tree, other))
    return steps
