"""What nets mean."""

from namedmeets.feeding import sources_in
from namedmeets.flatrun import FlatGuide, flat_plain
from namedmeets.holding import ends_of, in_flow
from namedmeets.labels import ROOT
from namedmeets.machine import sign_value, worked_out
from namedmeets.plain import Came
from namedmeets.values import Made, size_of


def given_by(guide, label, taken, fuel):
    """The pair of the value that a cell gives and of what is counted for it, None if that is above fuel.

    taken has the values that its ends take, in order; a leave cell gives nothing.
    """
    sort = label[0]
    if sort == "maker":
        return (Made(label[1], taken), 0)
    if sort == "number":
        return (label[1], 0)
    if sort == "work":
        return worked_out(guide, guide.entered(label[1], taken), fuel)
    if sort == "step":
        numbers = label[2:] + taken
        return (sign_value(label[1], numbers[0], numbers[1]), len(taken))
    return (taken[0], size_of(taken[0]))


def meant(book, net, fuel):
    """The value at the root of a net of a run and the count of the net, None if the count is above fuel."""
    guide = FlatGuide(book.flat)
    labels = {cell.name: cell.label for cell in net.cells}
    source = sources_in(net.ties)
    given = {}
    count = 0
    for name in in_flow(list(labels), net.ties):
        takes = [k for k, end in enumerate(ends_of(book, labels[name])) if not end[0]]
        taken = tuple([given[source[(name, k)][0]] for k in takes])
        told = given_by(guide, labels[name], taken, fuel - count)
        if told is None:
            return None
        given[name] = told[0]
        count += told[1]
        if count > fuel:
            return None
    return Came(given[source[ROOT][0]], count)


def ends_within(book, fuel):
    """Whether the whole run of a book has at most so many meetings, told without its net: they are what is counted."""
    return flat_plain(book.flat, book.name, book.given, fuel) is not None
