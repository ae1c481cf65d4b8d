"""Nets of cells that meet two by two."""

from namedmeets.calls import called
from namedmeets.doing import Doing
from namedmeets.errors import BadNet, TooMany
from namedmeets.feeding import sources_in, value_at
from namedmeets.flat import start_of
from namedmeets.labels import ROOT, is_maker, line_of
from namedmeets.laying import body_laid, value_cells
from namedmeets.meetings import brought
from namedmeets.tables import makers_of


class Cell:
    """A cell: its name and its label."""

    def __init__(self, name, label):
        self.name = name
        self.label = tuple(label)


class Net:
    """Cells, sorted by name, and ties, sorted: pairs of a giving and a taking end."""

    def __init__(self, cells, ties):
        self.cells = tuple(sorted(list(cells), key=lambda cell: cell.name))
        self.ties = tuple(sorted(list(ties)))

    def __eq__(self, other):
        if not isinstance(other, Net):
            return False
        return told_cells(self) == told_cells(other) and self.ties == other.ties


class Book:
    """What a run hangs on: a flat program, the name of a function of the text, and values for it."""

    def __init__(self, flat, name, given):
        called(flat.program, name, given)
        self.flat = flat
        self.name = name
        self.given = tuple(given)
        # Tables of what meetings ask for again and again.
        self.functions = {function.name: function for function in flat.functions}
        self.makers = makers_of(flat.program.kinds)


def told_cells(net):
    """The pairs (name, label) of the cells of a net."""
    return [(cell.name, cell.label) for cell in net.cells]


def made_cells(told):
    """The Cells of pairs (name, label)."""
    return [Cell(name, label) for name, label in told]


def doing_from(book, net):
    """The work of doing meetings from a net on."""
    return Doing(book, told_cells(net), net.ties)


def net_in(work):
    """The net in which meetings have been done."""
    ties = [(giving, taking) for taking, giving in work.source.items()]
    return Net(made_cells(list(work.labels.items())), ties)


def started(book):
    """The start net of a book."""
    names, body = start_of(book.flat, book.name)
    heads = {name: (f"a{k}", 0) for k, name in enumerate(names)}
    laid = body_laid("m:", book.makers, body, ROOT, heads)
    cells = laid.named_cells()
    ties = list(laid.ties)
    for k, value in enumerate(book.given):
        more, tied = value_cells(value, f"a{k}")
        cells.extend(more)
        ties.extend(tied)
    return Net(made_cells(cells), ties)


def ready(net):
    """The sorted names of all meetings that are possible in a net."""
    labels = dict(told_cells(net))
    lines = []
    for giving, taking in net.ties:
        if giving[1] == 0 and taking[1] == 0 and giving[0] in labels and taking[0] in labels:
            if is_maker(labels[giving[0]]) and not is_maker(labels[taking[0]]):
                lines.append(line_of(taking[0], labels[giving[0]]))
    return tuple(sorted(set(lines)))


def born(book, worker, maker):
    """What comes where a worker meets a maker: the new Cells, and the new ties as pairs of points."""
    told, ties = brought(book, (worker.name, worker.label), (maker.name, maker.label))
    return (tuple(made_cells(told)), tuple(ties))


def met(book, net, line):
    """The net behind the meeting with this name."""
    if line not in ready(net):
        raise BadNet(line)
    work = doing_from(book, net)
    work.do(line)
    return net_in(work)


def worked(book, lines):
    """The work behind a list of meetings, each of which must be done by it."""
    work = doing_from(book, started(book))
    work.do_among(lines)
    done = {line: True for line in work.lines_done()}
    for line in lines:
        if line not in done:
            raise BadNet(line)
    return work


def net_of(book, lines):
    """The net behind a list of meetings."""
    return net_in(worked(book, lines))


def done_all(book, net, most):
    """The pair of the net behind all meetings that can be done from a net on, and their sorted names."""
    work = doing_from(book, net)
    work.do_least(most)
    if work.waiting:
        raise TooMany("meetings", most, most)
    return (net_in(work), work.lines_done())


def answer_of(net):
    """The value at the root of a net without workers, None for all others."""
    labels = dict(told_cells(net))
    for label in labels.values():
        if not is_maker(label):
            return None
    return value_at(labels, sources_in(net.ties), ROOT, {})
