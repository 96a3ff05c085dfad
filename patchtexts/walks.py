"""Goes through a row of steps from a tree on, and turns one round."""

from patchtexts.steps import FITS


class Walk:
    """How many steps fit so far, the tree behind them, and why the next one doesn't fit."""

    def __init__(self, tree):
        self.fitting = 0
        self.tree = tree
        self.reason = FITS


def walk_through(tree, steps):
    """Applies the steps one behind the other, up to the first one that doesn't fit."""
    walk = Walk(tree)
    for step in steps:
        walk.reason = step.why(walk.tree)
        if walk.reason != FITS:
            return walk
        walk.tree = step.applied(walk.tree)
        walk.fitting += 1
    return walk


def turned_round(steps):
    """The row of steps that leads back."""
    return [step.turned() for step in reversed(steps)]
