"""Laying: the cells and ties of flat bodies and of values."""

from namedmeets.flat import Copy, Leave
from namedmeets.tables import SIGNS
from namedmeets.trees import Number, Place
from namedmeets.values import is_integer, parts_of


class Laid:
    """Cells and ties that are being laid: a working object.

    The cells have the names that begin with a word and end with their numbers; labels has their labels, in order.
    """

    def __init__(self, word):
        self.word = word
        self.labels = []
        self.ties = []

    def put(self, label):
        """Puts one more cell; returns its name."""
        self.labels.append(label)
        return f"{self.word}{len(self.labels) - 1}"

    def named_cells(self):
        """The pairs (name, label) of the cells, in order."""
        return [(f"{self.word}{k}", label) for k, label in enumerate(self.labels)]


def lay_applied(laid, makers, one, at):
    """Puts the cell of an Applied at a taking end; returns the pairs (part, the taking end at which it is laid)."""
    many = len(one.parts)
    if one.name in SIGNS:
        label, giving, first = ("step", one.name), many, 0
    elif one.name in makers:
        label, giving, first = ("maker", one.name), 0, 1
    else:
        label, giving, first = ("work", one.name), many, 0
    name = laid.put(label)
    laid.ties.append(((name, giving), at))
    return [(part, (name, k)) for k, part in enumerate(one.parts, start=first)]


def lay_one(laid, makers, one, at, names):
    """Puts the first cell of a body at a taking end, or ties what a name stands for; returns what is laid then."""
    if isinstance(one, Place):
        laid.ties.append((names[one.name], at))
        return []
    if isinstance(one, Number):
        name = laid.put(("number", one.number))
        laid.ties.append(((name, 0), at))
        return []
    if isinstance(one, Leave):
        name = laid.put(("leave",))
        return [(one.part, (name, 0)), (one.body, at)]
    if isinstance(one, Copy):
        name = laid.put(("copy",))
        names[one.one] = (name, 1)
        names[one.two] = (name, 2)
        return [(one.part, (name, 0)), (one.body, at)]
    return lay_applied(laid, makers, one, at)


def body_laid(word, makers, body, at, names):
    """What is laid of a flat body at a taking end; names has the giving ends for names, makers all makers by name."""
    laid = Laid(word)
    names = dict(names)
    waiting = [(body, at)]
    while waiting:
        one, end = waiting.pop()
        waiting.extend(list(reversed(lay_one(laid, makers, one, end, names))))
    return laid


def value_cells(value, name):
    """The pairs (name, label) of the cells of a value, its own cell having this name, and their ties."""
    cells = []
    ties = []
    waiting = [(value, name)]
    while waiting:
        one, called = waiting.pop()
        parts = parts_of(one)
        cells.append((called, ("number", one) if is_integer(one) else ("maker", one.maker)))
        for k, part in enumerate(parts):
            ties.append(((f"{called}:{k}", 0), (called, k + 1)))
            waiting.append((part, f"{called}:{k}"))
    return (cells, ties)
