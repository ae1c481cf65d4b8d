"""The kinds of the names of a row and of its bodies, and which functions test."""

from namedmeets.bodies import all_in, lets_in, shapes_in
from namedmeets.tables import NUM, heads_of, makers_of
from namedmeets.trees import Applied, Number, Place


def kind_of(heads, names, body):
    """The name of the kind of a body, or of a flat body.

    heads is a table as heads_of makes it; names has for each name that stands in the body the name of its kind,
    or the body whose value it stands for.
    """
    while True:
        if isinstance(body, Applied):
            return heads[body.name][1]
        if isinstance(body, Number):
            return NUM
        if isinstance(body, Place):
            told = names[body.name]
            if isinstance(told, str):
                return told
            body = told
        else:
            # A Let, a Copy or a Leave is of the kind of the body in it.
            body = body.body


def has_right_kinds(heads, names, body, result):
    """Whether each part of an Applied in a body is of the kind that it must have, and the body of this one.

    heads and names are as for kind_of.
    """
    for one in all_in(body):
        if isinstance(one, Applied):
            for part, kind in zip(one.parts, heads[one.name][0]):
                if kind_of(heads, names, part) != kind:
                    return False
    return kind_of(heads, names, body) == result


def pattern_kinds(makers, patterns, places):
    """The pairs (name, name of its kind) of the Places of some patterns, from left to right."""
    pairs = []
    waiting = list(reversed(list(zip(patterns, places))))
    while waiting:
        one, kind = waiting.pop()
        if isinstance(one, Place):
            pairs.append((one.name, kind))
        else:
            inner = list(zip(one.parts, makers[one.maker][0].places))
            waiting.extend(list(reversed(inner)))
    return pairs


def row_names(makers, places, row):
    """For each name that a row binds the name of its kind, or the body that a let gives it, as kind_of takes them."""
    names = dict(pattern_kinds(makers, row.patterns, places))
    for one in lets_in(row.body):
        names[one.name] = one.one
    return names


def place_kinds(program, function, index):
    """The pairs (name, name of its kind) of all names that a row binds: of its patterns, then of its lets."""
    row = function.rows[index]
    makers = makers_of(program.kinds)
    heads = heads_of(program.kinds, program.functions)
    names = row_names(makers, function.places, row)
    pairs = pattern_kinds(makers, row.patterns, function.places)
    for one in lets_in(row.body):
        pairs.append((one.name, kind_of(heads, names, one.one)))
    return tuple(pairs)


def tests(function):
    """Whether a function looks at a maker: whether its first row has a Shape."""
    for pattern in function.rows[0].patterns:
        if shapes_in(pattern):
            return True
    return False
