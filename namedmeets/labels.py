"""Labels of cells, and the names that meetings have by them."""

ROOT = ("root", 0)


def is_maker(label):
    """Whether a cell with this label is a maker; all others are workers."""
    return label[0] == "maker" or label[0] == "number"


def word_of(label):
    """The word of a maker."""
    return f"#{label[1]}" if label[0] == "number" else label[1]


def line_of(worker, label):
    """The name of the meeting of the worker with this name and a maker with this label."""
    return f"{worker}.{word_of(label)}"
