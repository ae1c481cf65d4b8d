"""Making the steps ahead that stand in the bodies of a flat program."""

from namedmeets.bodies import folded
from namedmeets.flat import Copy, Flat, FlatFunction, FlatRow, Leave, Start, copies_in, row_for
from namedmeets.leading import Namer, called_in_place, replaced
from namedmeets.machine import sign_value
from namedmeets.tables import SIGNS, makers_of
from namedmeets.trees import Applied, Number, Place
from namedmeets.values import is_integer


def names_in(flat):
    """A table of all names that the rows of a flat program have, and their Copies give."""
    rows = list(flat.starts)
    for function in flat.functions:
        rows.extend(function.rows)
    names = {}
    for row in rows:
        for name in row.names:
            names[name] = True
        for copy in copies_in(row.body):
            names[copy.one] = True
            names[copy.two] = True
    return names


def body_for(value):
    """The body for what a sign gives."""
    return Number(value) if is_integer(value) else Applied(value.maker, ())


def left_parts(leave):
    """The Leaves of the parts of a maker or number that is left, around the body."""
    whole = leave.body
    for part in reversed(leave.part.inner()):
        whole = Leave(part, whole)
    return whole


class Settling:
    """The work of making steps ahead in the bodies of a flat program: a working object."""

    def __init__(self, flat):
        self.namer = Namer(names_in(flat))
        self.makers = makers_of(flat.program.kinds)
        self.functions = {function.name: function for function in flat.functions}

    def is_made(self, body):
        """Whether a body is that of a maker."""
        return isinstance(body, Applied) and body.name in self.makers

    def copied_parts(self, copy):
        """The Copies of the parts of a maker or number that is copied, around the body, which has both makers."""
        part = copy.part
        parts = part.inner()
        ones = self.namer.new_names(len(parts))
        twos = self.namer.new_names(len(parts))
        whole = replaced(copy.body, copy.one, [part.with_inner([Place(name) for name in ones])])
        whole = replaced(whole, copy.two, [part.with_inner([Place(name) for name in twos])])
        for k in reversed(range(len(parts))):
            whole = Copy(parts[k], ones[k], twos[k], whole)
        return whole

    def applied(self, one):
        """What an Applied comes to at its turn, and the rows that come into force by it."""
        if one.name in SIGNS:
            first, second = one.parts
            if isinstance(first, Number) and isinstance(second, Number):
                return (body_for(sign_value(one.name, first.number, second.number)), ())
        elif one.name in self.functions and self.is_made(one.parts[0]):
            first = one.parts[0]
            row = row_for(self.functions[one.name], first.name)
            return (called_in_place(self.namer, row, first.parts + one.parts[1:]), row.rows)
        return (one, ())

    def turned(self, one, told):
        """The pair of what a form comes to at its turn and the rows that come into force, told having those in it."""
        one = one.with_inner([body for body, _ in told])
        rows = ()
        for _, more in told:
            rows = rows + more
        if isinstance(one, Applied):
            body, more = self.applied(one)
            return (body, rows + more)
        if isinstance(one, (Copy, Leave)) and (isinstance(one.part, Number) or self.is_made(one.part)):
            return (left_parts(one) if isinstance(one, Leave) else self.copied_parts(one), rows)
        return (one, rows)

    def settled_body(self, row):
        """The pair of the body of a FlatRow or Start with its steps made ahead, and the rows of the text then."""
        body, more = folded(row.body, lambda one, told: self.turned(one, told))
        return (body, row.rows + more)

    def settled_function(self, function):
        """A flat function with the steps in its bodies made ahead."""
        rows = []
        for row in function.rows:
            body, texts = self.settled_body(row)
            rows.append(FlatRow(row.maker, row.names, body, texts))
        return FlatFunction(function.name, function.origin, function.places, function.result, rows)


def settled(flat):
    """The flat program in which the steps that stand in a body are made ahead."""
    work = Settling(flat)
    functions = [work.settled_function(function) for function in flat.functions]
    starts = []
    for start in flat.starts:
        body, texts = work.settled_body(start)
        starts.append(Start(start.name, start.names, body, texts))
    return Flat(flat.program, functions, starts)
