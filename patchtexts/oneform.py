"""The one form in which trees and steps are written."""


def row_form(tokens):
    return " ".join(["{"] + [str(token) for token in tokens] + ["}"])


def files_form(tree):
    """The lines of the tree's files, by rising names."""
    lines = []
    for name in sorted(tree):
        lines.append(" ".join(["file", str(name), row_form(tree[name])]) + "\n")
    return "".join(lines)


def steps_form(steps):
    """The lines of the steps, in their order."""
    return "".join([step.form() + ";\n" for step in steps])
