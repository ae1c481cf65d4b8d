"""Doing meetings in a net, one after the other."""

from heapq import heappop, heappush

from namedmeets.labels import line_of
from namedmeets.meetings import brought


class Done:
    """A meeting that was done: its line, the names of its two cells, and what it brought."""

    def __init__(self, line, worker, maker, cells, ties):
        self.line = line
        self.worker = worker
        self.maker = maker
        self.cells = cells
        self.ties = ties


class Doing:
    """A net in which meetings are done: a working object.

    labels has the label of each cell by its name; source has for each taking end the giving end to which it is tied,
    target the other way round; waiting has the worker of each line that can be done, done what was done, in order.
    """

    def __init__(self, book, cells, ties):
        self.book = book
        self.labels = dict(cells)
        self.source = {}
        self.target = {}
        self.waiting = {}
        self.done = []
        for giving, taking in ties:
            self.tie(giving, taking)

    def tie(self, giving, taking):
        """Ties two ends; returns the lines that can be done by it: one, or none."""
        self.source[taking] = giving
        self.target[giving] = taking
        if giving[1] != 0 or taking[1] != 0 or taking[0] not in self.labels:
            return []
        # The head of a maker is tied to the head of a worker.
        line = line_of(taking[0], self.labels[giving[0]])
        self.waiting[line] = taking[0]
        return [line]

    def cell(self, name):
        """The pair of a name and the label of its cell."""
        return (name, self.labels[name])

    def do(self, line):
        """Does a meeting that can be done; returns the lines that can be done by it."""
        worker = self.waiting.pop(line)
        maker = self.source.pop((worker, 0))[0]
        del self.target[(maker, 0)]
        cells, ties = brought(self.book, self.cell(worker), self.cell(maker))
        del self.labels[worker]
        del self.labels[maker]
        self.done.append(Done(line, worker, maker, cells, ties))
        for name, label in cells:
            self.labels[name] = label
        lines = []
        for giving, taking in ties:
            # A tail of the two cells stands for what it was tied to.
            if giving[0] == worker or giving[0] == maker:
                giving = self.source.pop(giving)
            if taking[0] == worker:
                taking = self.target.pop(taking)
            lines.extend(self.tie(giving, taking))
        return lines

    def do_those(self, wanted, most):
        """Does meetings for which wanted(line, worker) holds, as long as one can be done, and at most so many."""
        lines = list(self.waiting)
        many = 0
        while lines and many < most:
            line = lines.pop()
            if wanted(line, self.waiting[line]):
                lines.extend(self.do(line))
                many += 1

    def do_among(self, words):
        """Does those meetings that are among some words, whatever values these are."""
        table = {word: True for word in words if isinstance(word, str)}
        self.do_those(lambda line, worker: line in table, len(table))

    def do_least(self, most):
        """Does meetings, the least line first, as long as one can be done, and at most so many; returns how many."""
        lines = sorted(list(self.waiting))
        many = 0
        while lines and many < most:
            line = heappop(lines)
            many += 1
            for new in self.do(line):
                heappush(lines, new)
        return many

    def twin(self):
        """The same net, with the same lines done, in which other meetings can be done."""
        ties = [(giving, taking) for taking, giving in self.source.items()]
        other = Doing(self.book, list(self.labels.items()), ties)
        other.done = list(self.done)
        return other

    def lines_done(self):
        """The sorted names of the meetings that were done."""
        return tuple(sorted([one.line for one in self.done]))
