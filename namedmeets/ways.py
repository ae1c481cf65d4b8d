"""What has been in a state of a run."""

from namedmeets.errors import BadNumber, NoName
from namedmeets.holding import ends_of
from namedmeets.labels import ROOT
from namedmeets.nets import made_cells, net_in, started, worked
from namedmeets.values import is_integer


class Story:
    """A state of a book, and what has been in it."""

    def __init__(self, book, lines):
        work = worked(book, lines)
        self.book = book
        self.lines = tuple(sorted([one.line for one in work.done]))
        self.net = net_in(work)
        start = started(book)
        self.cells = {cell.name: cell for cell in start.cells}
        self.lines_born = {}
        self.lines_gone = {}
        self.onward = {taking: giving for giving, taking in start.ties}
        for one in work.done:
            self.keep(one)

    def keep(self, one):
        """Keeps what came and went by a meeting."""
        self.lines_gone[one.worker] = one.line
        self.lines_gone[one.maker] = one.line
        for cell in made_cells(one.cells):
            self.cells[cell.name] = cell
            self.lines_born[cell.name] = one.line
        for giving, taking in one.ties:
            self.onward[taking] = giving

    def refuse_name(self, name):
        """Raises NoName if no cell that has been has this name."""
        if not isinstance(name, str) or name not in self.cells:
            raise NoName(name)

    def refuse_end(self, end):
        """Raises an error if nothing that has been has this end; returns whether the end gives."""
        name, number = end
        ends = ((False, None),)
        if name != ROOT[0]:
            self.refuse_name(name)
            ends = ends_of(self.book, self.cells[name].label)
        if not is_integer(number) or number < 0 or number >= len(ends):
            raise BadNumber("end", number)
        return ends[number][0]

    def cell(self, name):
        """The Cell with this name."""
        self.refuse_name(name)
        return self.cells[name]

    def all_names(self):
        """The sorted names of all cells that have been."""
        return tuple(sorted(list(self.cells)))

    def born_by(self, name):
        """The line by which a cell came, None for a start cell."""
        self.refuse_name(name)
        return self.lines_born.get(name)

    def gone_by(self, name):
        """The line by which a cell went, None if it stands."""
        self.refuse_name(name)
        return self.lines_gone.get(name)

    def goes_on(self, end):
        """The end to which an end goes on, None if it does not."""
        self.refuse_end(end)
        return self.onward.get(end)

    def way(self, end):
        """The row of ends from a taking end on, each of which goes on to the next one."""
        if self.refuse_end(end):
            raise BadNumber("taking", end[1])
        ends = []
        one = end
        while one is not None:
            ends.append(one)
            one = self.onward.get(one)
        return tuple(ends)
