"""Who waits for whom, and what is needed."""

from namedmeets.calls import refuse_fuel
from namedmeets.errors import BadNumber, NoName
from namedmeets.feeding import sources_in
from namedmeets.labels import ROOT, is_maker
from namedmeets.needing import bring_line, bring_maker
from namedmeets.nets import doing_from, started, worked
from namedmeets.values import is_integer


def feeding_cell(labels, source, end):
    """The name of the cell that feeds a taking end of a net; errors if there is no such end."""
    name, number = end
    if name != ROOT[0] and not (isinstance(name, str) and name in labels):
        raise NoName(name)
    if not is_integer(number) or (name, number) not in source:
        raise BadNumber("taking", number)
    return source[(name, number)][0]


def feeder(net, end):
    """The name of the cell that feeds a taking end of a net, or the root."""
    return feeding_cell({cell.name: cell.label for cell in net.cells}, sources_in(net.ties), end)


def waiting(net):
    """The sorted pairs (worker that waits, worker that feeds its head)."""
    labels = {cell.name: cell.label for cell in net.cells}
    source = sources_in(net.ties)
    pairs = []
    for name, label in labels.items():
        if not is_maker(label):
            ahead = source[(name, 0)][0]
            if not is_maker(labels[ahead]):
                pairs.append((name, ahead))
    return tuple(sorted(pairs))


def missing(book, lines, end, fuel):
    """The sorted least set of lines that, with some lines, lets a maker feed an end, None above fuel."""
    work = worked(book, lines)
    feeding_cell(work.labels, work.source, end)
    refuse_fuel(fuel)
    many = len(work.done)
    if not bring_maker(work, end, many + fuel):
        return None
    return tuple(sorted([one.line for one in work.done[many:]]))


def least_state(book, words, fuel):
    """The least state that has all words, None if it is above fuel, or if there is none."""
    refuse_fuel(fuel)
    work = doing_from(book, started(book))
    for word in words:
        if not isinstance(word, str) or not bring_line(work, word, fuel):
            return None
    return work.lines_done()
