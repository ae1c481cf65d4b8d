"""Flat programs: rows that look at one maker each, and in which every name is used exactly once."""

from namedmeets.bodies import all_in, places_in
from namedmeets.checking import has_right_kinds
from namedmeets.errors import NoName
from namedmeets.programs import function_named
from namedmeets.tables import heads_of, named_in
from namedmeets.trees import Applied


class Copy:
    """A body in which the value of a part has two names."""

    def __init__(self, part, one, two, body):
        self.part = part
        self.one = one
        self.two = two
        self.body = body

    def inner(self):
        """The part, and the body with the names."""
        return (self.part, self.body)

    def with_inner(self, inner):
        """The same names with other bodies."""
        return Copy(inner[0], self.one, self.two, inner[1])


class Leave:
    """A body beside which a part is worked out that nobody uses."""

    def __init__(self, part, body):
        self.part = part
        self.body = body

    def inner(self):
        """The part, and the body that stands for the whole."""
        return (self.part, self.body)

    def with_inner(self, inner):
        """The same with other bodies."""
        return Leave(inner[0], inner[1])


class FlatRow:
    """What a flat function does with one maker, and which rows of the text come into force by it."""

    def __init__(self, maker, names, body, rows):
        self.maker = maker
        self.names = tuple(names)
        self.body = body
        self.rows = tuple(rows)


class FlatFunction:
    """A function that looks at the maker of its first place."""

    def __init__(self, name, origin, places, result, rows):
        self.name = name
        self.origin = origin
        self.places = tuple(places)
        self.result = result
        self.rows = tuple(rows)


class Start:
    """How a call of a function of the text begins."""

    def __init__(self, name, names, body, rows):
        self.name = name
        self.names = tuple(names)
        self.body = body
        self.rows = tuple(rows)


class Flat:
    """A flat program: the Program, its flat functions, and a Start for each function of the text."""

    def __init__(self, program, functions, starts):
        self.program = program
        self.functions = tuple(functions)
        self.starts = tuple(starts)


def flat_function(flat, name):
    """The FlatFunction with this name."""
    function = named_in(flat.functions, name)
    if function is None:
        raise NoName(name)
    return function


def start_of(flat, name):
    """The pair of the names and the body of the Start of a function of the text."""
    start = named_in(flat.starts, name)
    if start is None:
        raise NoName(name)
    return (start.names, start.body)


def row_for(function, maker):
    """The FlatRow of a flat function for the maker with this name."""
    for row in function.rows:
        if row.maker == maker:
            return row
    raise NoName(maker)


def copies_in(body):
    """The Copies of a flat body, in the order of the text."""
    return [one for one in all_in(body) if isinstance(one, Copy)]


def uses_names_once(names, body):
    """Whether names and those that Copies give are unlike, and each stands once, where it may, and no other does."""
    known = list(names)
    used = sorted(places_in(body))
    for copy in copies_in(body):
        known.extend([copy.one, copy.two])
        inside = places_in(copy.body)
        if copy.one not in inside or copy.two not in inside:
            return False
    return len(set(known)) == len(known) and sorted(known) == used


def applies_rightly(heads, body):
    """Whether each Applied of a body has a name that there is, with as many parts as that has places."""
    for one in all_in(body):
        if isinstance(one, Applied):
            if one.name not in heads or len(heads[one.name][0]) != len(one.parts):
                return False
    return True


def names_of_copies(kinds, body):
    """For each name of a body its kind, or the part that it is a copy of, as kind_of takes them."""
    names = dict(kinds)
    for copy in copies_in(body):
        names[copy.one] = copy.part
        names[copy.two] = copy.part
    return names


def holds_for_body(heads, names, places, body, result):
    """Whether (b) to (e) of what always holds holds for a body with names for places of these kinds."""
    if len(names) != len(places) or not uses_names_once(names, body) or not applies_rightly(heads, body):
        return False
    return has_right_kinds(heads, names_of_copies(list(zip(names, places)), body), body, result)


def holds_for_function(heads, kinds, function):
    """Whether what always holds holds for a flat function."""
    kind = named_in(kinds, function.places[0]) if function.places else None
    if kind is None or [row.maker for row in function.rows] != [maker.name for maker in kind.makers]:
        return False
    for row, maker in zip(function.rows, kind.makers):
        places = maker.places + function.places[1:]
        if not holds_for_body(heads, row.names, places, row.body, function.result):
            return False
    return True


def fault_of(flat):
    """The name of the first function for which what always holds does not, None if there is none."""
    kinds = flat.program.kinds
    heads = heads_of(kinds, flat.functions)
    for function in flat.functions:
        if not holds_for_function(heads, kinds, function):
            return function.name
    for start in flat.starts:
        function = function_named(flat.program, start.name)
        if not holds_for_body(heads, start.names, function.places, start.body, function.result):
            return start.name
    return None
