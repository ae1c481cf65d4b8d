"""Doing meetings in a net, one after the other."""

from namedmeets.labels import is_maker, line_of
from namedmeets.meetings import brought


class Done:
    """A meeting that was done: its line, the names of its two cells, and what it brought."""

    def __init__(self, line, worker, maker, cells, ties):
        self.line = line
        self.worker = worker
        self.maker = maker
        self.cells = cells
        self.ties = ties


class Doing:
    """A net in which meetings are done: a working object.

    labels has the label of each cell by its name; source has for each taking end the giving end to which it is tied,
    target the other way round; waiting has the worker of each line that can be done, done what was done, in order.
    """

    def __init__(self, book, cells, ties):
        self.book = book
        self.labels = dict(cells)
        self.source = {}
        self.target = {}
        self.waiting = {}
        self.done = []
        for giving, taking in ties:
            self.tie(giving, taking)

    def tie(self, giving, taking):
        """Ties two ends; returns the lines that can be done by it: one, or none."""
        self.source[taking] = giving
        self.target[giving] = taking
        if giving[1] != 0 or taking[1] != 0 or taking[0] not in self.labels or is_maker(self.labels[taking[0]]):
            return []
        line = line_of(taking[0], self.labels[giving[0]])
        self.waiting[line] = taking[0]
        return [line]

    def cell(self, name):
        """The pair of a name and the label of its cell."""
        return (name, self.labels[name])

    def do(self, line):
        """Does a meeting that can be done; returns the lines that can be done by it."""
        worker = self.waiting.pop(line)
        maker = self.source.pop((worker, 0))[0]
        del self.target[(maker, 0)]
        cells, ties = brought(self.book, self.cell(worker), self.cell(maker))
        del self.labels[worker]
        del self.labels[maker]
        self.done.append(Done(line, worker, maker, cells, ties))
        for name, label in cells:
            self.labels[name] = label
        lines = []
        for giving, taking in ties:
            # A tail of the two cells stands for what it was tied to.
            if giving[0] == worker or giving[0] == maker:
                giving = self.source.pop(giving)
            if taking[0] == worker:
                taking = self.target.pop(taking)
            lines.extend(self.tie(giving, taking))
        return lines

    def do_among(self, wanted):
        """Does the meetings among the keys of a dict that can be done, as long as one can; returns their lines."""
        lines = []
        waiting = list(self.waiting)
        while waiting:
            line = waiting.pop()
            if line in wanted:
                lines.append(line)
                waiting.extend(self.do(line))
        return lines
