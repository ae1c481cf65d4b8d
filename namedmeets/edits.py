"""Edits of what is run, and what they leave standing."""

from namedmeets.bodies import all_in
from namedmeets.errors import BadNumber, NoName
from namedmeets.flat import Copy, Leave, flat_function, row_for
from namedmeets.flatten import flattened
from namedmeets.meetings import many_parts
from namedmeets.nets import Book, doing_from, started
from namedmeets.programs import Program
from namedmeets.trees import Number, Place
from namedmeets.values import is_integer, part_at, value_with
from namedmeets.words import text_lines


class Case:
    """What is run: the text of a program, the name of a function of it, and values for it."""

    def __init__(self, text, name, given):
        self.text = text
        self.name = name
        self.program = Program(text)
        self.book = Book(flattened(self.program), name, given)
        self.given = self.book.given

    def __eq__(self, other):
        if not isinstance(other, Case):
            return False
        return self.text == other.text and self.name == other.name and self.given == other.given


def with_part(case, place, path, value):
    """The case with another value at a path of one of its arguments."""
    if not is_integer(place) or place < 0 or place >= len(case.given):
        raise BadNumber("place", place)
    if part_at(case.given[place], path) is None:
        raise BadNumber("path", path)
    given = list(case.given)
    given[place] = value_with(given[place], path, value)
    return Case(case.text, case.name, given)


def with_lines(case, number, many, new):
    """The case whose text has new lines in the place of so many, the first of them being that with this number."""
    lines = text_lines(case.text)
    if not is_integer(number) or number < 1 or number + many > len(lines) + 1:
        raise BadNumber("line", number)
    lines[number - 1:number - 1 + many] = new
    return Case("".join([line + "\n" for line in lines]), case.name, case.given)


def with_line(case, number, line):
    """The case whose text has another line with this number."""
    return with_lines(case, number, 1, [line])


def with_new_line(case, number, line):
    """The case whose text has a new line ahead of the one with this number."""
    return with_lines(case, number, 0, [line])


def without_line(case, number):
    """The case whose text lacks the line with this number."""
    return with_lines(case, number, 1, [])


def head_of(one, numbers):
    """What stands at the head of a flat body; a name is told by its number."""
    if isinstance(one, Place):
        return ("place", numbers[one.name])
    if isinstance(one, Number):
        return ("number", one.number)
    if isinstance(one, Copy):
        return ("copy",)
    if isinstance(one, Leave):
        return ("leave",)
    return ("applied", one.name, len(one.parts))


def told_body(row):
    """The body of a FlatRow, but for its names: each is told by a number, first those of the row, then of Copies."""
    numbers = {name: k for k, name in enumerate(row.names)}
    told = []
    for one in all_in(row.body):
        told.append(head_of(one, numbers))
        if isinstance(one, Copy):
            # What has these names stands behind the Copy.
            numbers[one.one] = len(numbers)
            numbers[one.two] = len(numbers)
    return told


def alike_rows(flat, other, function, maker):
    """Whether the rows of a flat function for a maker are the same in two flat programs, but for their names."""
    try:
        one = flat_function(flat, function)
        two = flat_function(other, function)
        row = row_for(one, maker)
        other_row = row_for(two, maker)
    except NoName:
        return False
    if len(one.places) != len(two.places) or len(row.names) != len(other_row.names):
        return False
    return told_body(row) == told_body(other_row)


class AlikeDoing:
    """The nets of two books, in which the same lines are done, those that are alike: a working object.

    known has for each function and maker that were asked for whether their rows are alike.
    """

    def __init__(self, book, other):
        self.here = doing_from(book, started(book))
        self.there = doing_from(other, started(other))
        self.known = {}

    def has_alike_rows(self, function, maker):
        """Whether the rows of a flat function for a maker are alike."""
        key = (function, maker)
        if key not in self.known:
            self.known[key] = alike_rows(self.here.book.flat, self.there.book.flat, function, maker)
        return self.known[key]

    def is_alike(self, line):
        """Whether a line that can be done in both nets is alike."""
        worker = self.here.waiting[line]
        label = self.here.labels[worker]
        if self.there.labels[worker] != label:
            return False
        # The maker has the same label in both nets, as the line tells its word.
        maker = self.here.labels[self.here.source[(worker, 0)][0]]
        if many_parts(self.here.book, maker) != many_parts(self.there.book, maker):
            return False
        return label[0] != "work" or self.has_alike_rows(label[1], maker[1])

    def do_among(self, words):
        """Does those lines among some words that can be done in both nets and are alike, until there are none."""
        table = {word: True for word in words if isinstance(word, str)}
        left = list(self.here.waiting)
        while left:
            line = left.pop()
            if line in table and line in self.here.waiting and line in self.there.waiting and self.is_alike(line):
                left.extend(self.here.do(line))
                left.extend(self.there.do(line))


def carried(book, other, lines):
    """The sorted lines of the greatest shared state of two books that has only some lines."""
    work = AlikeDoing(book, other)
    work.do_among(lines)
    return work.here.lines_done()


def is_shared(book, other, lines):
    """Whether the set of some lines is a shared state of two books."""
    state = {line: True for line in carried(book, other, lines)}
    return all([isinstance(line, str) and line in state for line in lines])
