"""Snapshots: a net, and how many lines have been done, but not the lines."""

from namedmeets.errors import BadNet, BadText
from namedmeets.labels import is_maker
from namedmeets.nets import Net, doing_from, made_cells, net_in, started, worked
from namedmeets.snapreading import told_in
from namedmeets.where import Where


class Snapshot:
    """How many lines have been done, and the net behind them."""

    def __init__(self, count, net):
        self.count = count
        self.net = net

    def __eq__(self, other):
        return isinstance(other, Snapshot) and self.count == other.count and self.net == other.net


def snapshot(book, lines):
    """The snapshot of a state."""
    work = worked(book, lines)
    return Snapshot(len(work.done), net_in(work))


def standing(net, name):
    """Whether the cell with a name is here in a net, comes later, or is gone."""
    return Where(net).told(name)


def work_of(book, snap):
    """The work from the start net on of the state that a snapshot is of, if it is of one."""
    where = Where(snap.net)
    work = doing_from(book, started(book))
    work.do_those(lambda line, worker: where.is_gone(worker), snap.count)
    return work


def is_true(book, snap):
    """Whether some state of a book has the net of a snapshot, and as many lines."""
    work = work_of(book, snap)
    return len(work.done) == snap.count and net_in(work) == snap.net


def lines_of(book, snap):
    """The state that a snapshot is of."""
    return work_of(book, snap).lines_done()


def snapshot_behind(snap, work):
    """The snapshot behind the work that was done from the net of another one on."""
    return Snapshot(snap.count + len(work.done), net_in(work))


def grown(book, snap, words):
    """The snapshot behind as many words as can be done from the net of one on."""
    work = doing_from(book, snap.net)
    work.do_among(words)
    return snapshot_behind(snap, work)


def is_within(one, two):
    """Whether the state of one snapshot is within that of another one."""
    where = Where(one.net)
    for cell in two.net.cells:
        if not is_maker(cell.label) and where.is_gone(cell.name):
            return False
    return True


def merged(book, one, two):
    """The snapshot of the union of the states of two snapshots."""
    where = Where(two.net)
    work = doing_from(book, one.net)
    work.do_those(lambda line, worker: where.is_gone(worker), two.count)
    return snapshot_behind(one, work)


def shared(book, one, two):
    """The snapshot of the intersection of the states of two snapshots."""
    where = Where(one.net)
    other = Where(two.net)
    work = doing_from(book, started(book))
    work.do_those(lambda line, worker: where.is_gone(worker) and other.is_gone(worker), one.count)
    return Snapshot(len(work.done), net_in(work))


def told_line(words):
    """A line with some words, numbers among them."""
    return " ".join([str(word) for word in words]) + "\n"


def snapshot_text(snap):
    """The text of a snapshot."""
    lines = [told_line(("count", snap.count))]
    lines.extend([told_line(("cell", cell.name) + cell.label) for cell in snap.net.cells])
    lines.extend([told_line(("tie",) + giving + taking) for giving, taking in snap.net.ties])
    return "".join(lines)


def snapshot_from(book, text):
    """The snapshot that a text tells."""
    if not isinstance(text, str):
        raise BadText(0, 0)
    count, cells, ties = told_in(book, text)
    snap = Snapshot(count, Net(made_cells(cells), ties))
    if not is_true(book, snap):
        raise BadNet("state")
    return snap
