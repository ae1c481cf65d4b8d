"""Programs: their text, and what the names in it stand for."""

from namedmeets.errors import NoName
from namedmeets.reading import KindLine, program_lines
from namedmeets.refusing import refuse_wrong
from namedmeets.tables import TRUTH, named_in
from namedmeets.trees import Kind, Maker
from namedmeets.writing import written_lines


class Program:
    """A program: its kinds, Truth ahead of those of the text, and its functions."""

    def __init__(self, text):
        lines = program_lines(text)
        kinds = [one.kind for one in lines if isinstance(one, KindLine)]
        self.kinds = (Kind(TRUTH, [Maker("Yes", ()), Maker("No", ())]), *kinds)
        self.functions = tuple([one.function for one in lines if not isinstance(one, KindLine)])
        refuse_wrong(self, lines)


def kind_named(program, name):
    """The Kind with this name."""
    kind = named_in(program.kinds, name)
    if kind is None:
        raise NoName(name)
    return kind


def function_named(program, name):
    """The Function with this name."""
    function = named_in(program.functions, name)
    if function is None:
        raise NoName(name)
    return function


def maker_named(program, name):
    """The pair of the Maker with this name and the name of its kind."""
    for kind in program.kinds:
        maker = named_in(kind.makers, name)
        if maker is not None:
            return (maker, kind.name)
    raise NoName(name)


def written_program(program):
    """The one text of a program."""
    return "".join([line + "\n" for line in written_lines(program)])
