"""Trees, steps and rows of steps told as numbers."""


def counted(row):
    """The row with how many numbers it has ahead of it."""
    return [len(row)] + row


def tree_numbers(tree):
    told = [len(tree)]
    for name in sorted(tree):
        told.append(name)
        told.extend(counted(tree[name]))
    return told


def steps_numbers(steps):
    told = [len(steps)]
    for step in steps:
        told.extend(step.as_numbers())
    return told
