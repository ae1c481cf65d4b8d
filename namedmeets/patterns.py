"""Patterns and values: which row counts, which values no row fits, which rows are needless."""

from namedmeets.cases import Search, asks_of, smallest
from namedmeets.errors import BadNumber, NoName
from namedmeets.least import least_values
from namedmeets.tables import NUM, named_in
from namedmeets.trees import Place
from namedmeets.values import Made, is_integer


def refuse_no_kind(program, kind):
    """Raises NoName if a program has no kind with this name, and it is not that of numbers."""
    if named_in(program.kinds, kind) is None and kind != NUM:
        raise NoName(kind)


def places_for(value, makers):
    """The kinds of the parts that a value must have, by the makers of its kind; None if it is none of theirs."""
    if not isinstance(value, Made) or not isinstance(value.parts, tuple):
        return None
    maker = named_in(makers, value.maker)
    if maker is None or len(maker.places) != len(value.parts):
        return None
    return maker.places


def fits(program, value, kind):
    """Whether any value is a value that fits the kind with this name."""
    refuse_no_kind(program, kind)
    makers = {one.name: one.makers for one in program.kinds}
    waiting = [(value, kind)]
    while waiting:
        one, name = waiting.pop()
        if name == NUM:
            if not is_integer(one):
                return False
        else:
            places = places_for(one, makers[name])
            if places is None:
                return False
            waiting.extend(list(zip(one.parts, places)))
    return True


def matched(pattern, value):
    """The pairs (name, value) that the Places of a pattern stand for, None if it does not fit the value."""
    pairs = []
    waiting = [(pattern, value)]
    while waiting:
        one, part = waiting.pop()
        if isinstance(one, Place):
            pairs.append((one.name, part))
        elif isinstance(part, Made) and part.maker == one.maker and len(part.parts) == len(one.parts):
            waiting.extend(list(reversed(list(zip(one.parts, part.parts)))))
        else:
            return None
    return tuple(pairs)


def matched_row(row, values):
    """The pairs that all patterns of a row stand for, None if it does not fit the values."""
    pairs = ()
    for pattern, value in zip(row.patterns, values):
        more = matched(pattern, value)
        if more is None:
            return None
        pairs = pairs + more
    return pairs


def counting_row(function, values):
    """The pair of the index of the row that counts and the pairs of its patterns, None if no row fits."""
    for index, row in enumerate(function.rows):
        pairs = matched_row(row, values)
        if pairs is not None:
            return (index, pairs)
    return None


def least_value(program, kind):
    """The smallest value of a kind."""
    refuse_no_kind(program, kind)
    return least_values(program.kinds)[kind][1]


def values_between(program, function, rows, goal):
    """The smallest values for the places of a function that goal fits and none of the rows, None if there are none."""
    found = smallest(Search(program.kinds), function.places, [asks_of(row.patterns) for row in rows], goal)
    return None if found is None else found[1]


def missing(program, function):
    """The smallest tuple of values that no row of a function fits, None if there is none."""
    goal = (None,) * len(function.places)
    return values_between(program, function, function.rows, goal)


def comes_to(program, function, index):
    """The smallest tuple of values for which the row with this index counts, None if the row is needless."""
    if not is_integer(index) or index < 0 or index >= len(function.rows):
        raise BadNumber("index", index)
    goal = asks_of(function.rows[index].patterns)
    return values_between(program, function, function.rows[:index], goal)


def needless(program, function):
    """The indices of the rows that never count."""
    return tuple([k for k in range(len(function.rows)) if comes_to(program, function, k) is None])
