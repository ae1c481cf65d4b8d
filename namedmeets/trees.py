"""What programs consist of: kinds and makers, functions and rows, patterns and bodies.

Patterns and bodies tell what they consist of in one way: inner() has the patterns or bodies that stand directly
in one, in the order of the text. with_inner(inner) is the same form with others in their places; what stands in
bodies of flat programs has it.
"""


class Maker:
    """A maker, and the names of the kinds of its parts."""

    def __init__(self, name, places):
        self.name = name
        self.places = tuple(places)


class Kind:
    """A kind, and its makers in order."""

    def __init__(self, name, makers):
        self.name = name
        self.makers = tuple(makers)


class Row:
    """A row of a function: a pattern for each place, and a body."""

    def __init__(self, patterns, body):
        self.patterns = tuple(patterns)
        self.body = body


class Function:
    """A function: the names of the kinds of its places and of its result, and its rows in order."""

    def __init__(self, name, places, result, rows):
        self.name = name
        self.places = tuple(places)
        self.result = result
        self.rows = tuple(rows)


class Place:
    """A name: as a pattern it takes any value, as a body it stands for one."""

    def __init__(self, name):
        self.name = name

    def inner(self):
        """Nothing stands in a name."""
        return ()

    def with_inner(self, _):
        """The name itself."""
        return self


class Shape:
    """A pattern that asks for a maker."""

    def __init__(self, maker, parts):
        self.maker = maker
        self.parts = tuple(parts)

    def inner(self):
        """The patterns of its parts."""
        return self.parts


class Number:
    """A number as a body."""

    def __init__(self, number):
        self.number = number

    def inner(self):
        """Nothing stands in a number."""
        return ()

    def with_inner(self, _):
        """The number itself."""
        return self


class Applied:
    """A maker, a function or a sign, with its parts."""

    def __init__(self, name, parts):
        self.name = name
        self.parts = tuple(parts)

    def inner(self):
        """Its parts."""
        return self.parts

    def with_inner(self, inner):
        """The same name with other parts."""
        return Applied(self.name, inner)


class Let:
    """A body with a name for the value of another one."""

    def __init__(self, name, one, body):
        self.name = name
        self.one = one
        self.body = body

    def inner(self):
        """The body that the name stands for, and the body with the name."""
        return (self.one, self.body)
