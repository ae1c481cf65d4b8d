"""The machines of a hall: what each of them knows, writes and makes."""

from namedmeets.logs import appended, lines_in, log_text
from namedmeets.needing import bring_line
from namedmeets.nets import doing_from, started
from namedmeets.states import whole_part
from namedmeets.ways import Story


def chosen(lines, way):
    """The one of some sorted lines that a machine takes; way has the words of a deed that tell which."""
    if way[0] == "greatest":
        return lines[-1]
    if way[0] == "turn":
        return lines[int(way[1]) % len(lines)]
    if way[0] == "share" and way[2] != "0":
        rest = int(way[1])
        many = int(way[2])
        for line in lines:
            if len(line) % many == rest:
                return line
    return lines[0]


class HallMachine:
    """A machine of a hall: a working object.

    Of a machine that is up, known has the lines that it knows, in order, work is its state, and sent has the lines of
    the letters that it has sent since it began or came back last. made tells how many meetings it has made.
    """

    def __init__(self, book):
        self.book = book
        self.log = ""
        self.made = 0
        self.rise()

    def rise(self):
        """It comes up, and knows the lines in its log."""
        self.up = True
        self.log = appended(self.log, [])
        self.sent = {}
        self.known = {}
        self.work = doing_from(self.book, started(self.book))
        self.know(lines_in(self.log))

    def know(self, lines):
        """Knows some lines from now on; its state grows by all that can be done with them."""
        for line in lines:
            self.known[line] = True
        self.work.do_among(list(self.known))

    def learn(self, lines):
        """Comes to know those lines that it did not know, and writes them to its log."""
        new = [line for line in lines if line not in self.known]
        self.log = appended(self.log, new)
        self.know(new)

    def fall(self, many):
        """It goes down, and its log loses so many of its last signs."""
        self.up = False
        self.log = self.log[:max(0, len(self.log) - many)]

    def clean(self):
        """It knows the lines of its state alone."""
        lines = self.work.lines_done()
        self.known = {line: True for line in lines}
        self.log = log_text(lines)

    def known_lines(self):
        """The lines that it knows, in order; those in its log if it is down."""
        return tuple(list(self.known)) if self.up else lines_in(self.log)

    def state_lines(self):
        """Its state."""
        return self.work.lines_done() if self.up else whole_part(self.book, lines_in(self.log))

    def make(self, many, way):
        """Makes so many meetings, or fewer if none is left, and returns their lines; way tells which, as for chosen."""
        lines = []
        while len(lines) < many and self.work.waiting:
            line = chosen(sorted(list(self.work.waiting)), way)
            self.learn([line])
            lines.append(line)
        self.made += len(lines)
        return lines

    def needed_for(self, line, most):
        """What the least state with its own and a line has more, in the order of heights.

        This is nothing if there is no such state, or if it has more than most of such lines.
        """
        work = self.work.twin()
        many = len(work.done)
        if not bring_line(work, line, many + most):
            return []
        lines = [one.line for one in work.done[many:]]
        if len(lines) < 2:
            return lines
        heights = Story(self.book, work.lines_done()).heights
        return sorted(lines, key=lambda one: (heights[one], one))

    def seek(self, lines, most):
        """Makes what is needed for one line after the other, where that is at most so many; returns what it made."""
        made = []
        for line in lines:
            new = self.needed_for(line, most)
            self.learn(new)
            made.extend(new)
        self.made += len(made)
        return made
