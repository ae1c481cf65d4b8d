"""What has been in a state of a run."""

from namedmeets.errors import BadNumber, NoName
from namedmeets.holding import ends_of
from namedmeets.labels import ROOT
from namedmeets.nets import made_cells, net_in, started, worked
from namedmeets.values import is_integer


class Story:
    """A state of a book, and what has been in it.

    onward has for each end the one to which it goes on, tails_gone for each giving tail of a worker that is gone the
    line by which it went, causes_of for each line its causes ([48]), and heights its height ([50]); the lines stand in
    both behind their causes.
    """

    def __init__(self, book, lines):
        work = worked(book, lines)
        self.book = book
        self.lines = work.lines_done()
        self.net = net_in(work)
        start = started(book)
        self.cells = {cell.name: cell for cell in start.cells}
        self.lines_born = {}
        self.lines_gone = {}
        self.onward = {taking: giving for giving, taking in start.ties}
        self.tails_gone = {}
        self.causes_of = {}
        self.heights = {}
        for one in work.done:
            self.keep_causes(one)
            self.keep(one)

    def keep_causes(self, one):
        """Keeps the causes and the height of a meeting, all lines that come ahead of it being kept."""
        found = [self.lines_born.get(one.worker), self.lines_born.get(one.maker)]
        found.extend([self.tails_gone.get(end) for end in self.row_from((one.worker, 0))])
        causes = tuple(sorted(set([line for line in found if line is not None])))
        self.causes_of[one.line] = causes
        self.heights[one.line] = 1 + max([self.heights[line] for line in causes], default=0)

    def keep(self, one):
        """Keeps what came and went by a meeting."""
        self.lines_gone[one.worker] = one.line
        self.lines_gone[one.maker] = one.line
        for cell in made_cells(one.cells):
            self.cells[cell.name] = cell
            self.lines_born[cell.name] = one.line
        for giving, taking in one.ties:
            self.onward[taking] = giving
            if taking[0] == one.worker:
                self.tails_gone[taking] = one.line

    def row_from(self, end):
        """The row of ends from an end on, each of which goes on to the next one."""
        ends = []
        one = end
        while one is not None:
            ends.append(one)
            one = self.onward.get(one)
        return tuple(ends)

    def refuse_name(self, name):
        """Raises NoName if no cell that has been has this name."""
        if not isinstance(name, str) or name not in self.cells:
            raise NoName(name)

    def refuse_end(self, end):
        """Raises an error if nothing that has been has this end; returns whether the end gives."""
        name, number = end
        ends = ((False, None),)
        if name != ROOT[0]:
            self.refuse_name(name)
            ends = ends_of(self.book, self.cells[name].label)
        if not is_integer(number) or number < 0 or number >= len(ends):
            raise BadNumber("end", number)
        return ends[number][0]

    def cell(self, name):
        """The Cell with this name."""
        self.refuse_name(name)
        return self.cells[name]

    def all_names(self):
        """The sorted names of all cells that have been."""
        return tuple(sorted(list(self.cells)))

    def born_by(self, name):
        """The line by which a cell came, None for a start cell."""
        self.refuse_name(name)
        return self.lines_born.get(name)

    def gone_by(self, name):
        """The line by which a cell went, None if it stands."""
        self.refuse_name(name)
        return self.lines_gone.get(name)

    def goes_on(self, end):
        """The end to which an end goes on, None if it does not."""
        self.refuse_end(end)
        return self.onward.get(end)

    def way(self, end):
        """The row of ends from a taking end on, each of which goes on to the next one."""
        if self.refuse_end(end):
            raise BadNumber("taking", end[1])
        return self.row_from(end)
