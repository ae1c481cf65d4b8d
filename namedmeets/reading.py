"""Reading the text of a program: its kind lines, and its fun lines with their rows."""

from namedmeets.bodies import places_in
from namedmeets.errors import BadText
from namedmeets.rowreading import Reader, body_from, patterns_from
from namedmeets.trees import Function, Kind, Maker, Row
from namedmeets.words import is_big, is_small, words_of


class KindLine:
    """A kind line: its number and its Kind."""

    def __init__(self, line, kind):
        self.line = line
        self.kind = kind


class FunLine:
    """A fun line: its number, its Function, and the numbers of the lines of the function's rows."""

    def __init__(self, line, function, row_lines):
        self.line = line
        self.function = function
        self.row_lines = tuple(row_lines)


class Begun:
    """A function whose rows are being read: a working object."""

    def __init__(self, line, name, places, result):
        self.line = line
        self.name = name
        self.places = places
        self.result = result
        self.rows = []
        self.row_lines = []

    def as_line(self):
        """The fun line with all its rows."""
        function = Function(self.name, self.places, self.result, self.rows)
        return FunLine(self.line, function, self.row_lines)


def names_up_to(reader, stops):
    """The big names that stand ahead of the next one of these words, or of the end of the line."""
    names = []
    while reader.next_word() not in stops:
        names.append(reader.taken(is_big))
    return names


def kind_from(reader):
    """The kind that a kind line tells."""
    reader.pass_over("kind")
    name = reader.taken(is_big)
    reader.pass_over("=")
    makers = [Maker(reader.taken(is_big), names_up_to(reader, ("|", "")))]
    while reader.next_word() == "|":
        reader.take_next()
        makers.append(Maker(reader.taken(is_big), names_up_to(reader, ("|", ""))))
    return Kind(name, makers)


def function_begun(reader):
    """The function that a fun line tells, without rows."""
    reader.pass_over("fun")
    name = reader.taken(is_small)
    places = names_up_to(reader, ("=",))
    reader.pass_over("=")
    result = reader.taken(is_big)
    reader.must_end()
    return Begun(reader.line, name, places, result)


def row_from(reader, name):
    """The row of the function with this name that a line tells."""
    reader.pass_over(name)
    patterns = patterns_from(reader)
    bound = []
    for pattern in patterns:
        bound.extend(places_in(pattern))
    return Row(patterns, body_from(reader, bound))


def take_line(lines, reader):
    """Takes the line of a reader to those ahead of it: KindLines, and functions that have begun."""
    begun = [one for one in lines if isinstance(one, Begun)]
    if reader.next_word() == "kind":
        lines.append(KindLine(reader.line, kind_from(reader)))
    elif reader.next_word() == "fun":
        lines.append(function_begun(reader))
    elif begun:
        begun[-1].rows.append(row_from(reader, begun[-1].name))
        begun[-1].row_lines.append(reader.line)
    else:
        reader.refuse()


def program_lines(text):
    """The KindLines and FunLines of the text of a program, in order."""
    if not isinstance(text, str):
        raise BadText(0, 0)
    lines = []
    for k, line in enumerate(text.split("\n")):
        words = words_of(line)
        if words:
            take_line(lines, Reader(k + 1, words))
    return [one.as_line() if isinstance(one, Begun) else one for one in lines]
