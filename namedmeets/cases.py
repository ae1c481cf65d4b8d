"""The smallest tuple of values that some rows of patterns do not fit, found by cases.

A pattern stands here as what it asks for: a Shape, or None for a Place, which asks for nothing.
"""

from namedmeets.least import least_values
from namedmeets.trees import Shape
from namedmeets.values import Made


class Search:
    """What one search knows of the kinds, and what it has found so far."""

    def __init__(self, kinds):
        self.makers = {kind.name: kind.makers for kind in kinds}
        self.least = least_values(kinds)
        self.met = {}


def asks_of(patterns):
    """What some patterns ask for."""
    return tuple([one if isinstance(one, Shape) else None for one in patterns])


def asks_nothing(row):
    """Whether a row of asks fits all values."""
    for ask in row:
        if ask is not None:
            return False
    return True


def asked_columns(rows):
    """The indices of the columns in which some row asks for a maker. There is at least one row."""
    return tuple([k for k in range(len(rows[0])) if not asks_nothing([row[k] for row in rows])])


def picked(row, columns):
    """The items of a row at these columns."""
    return tuple([row[k] for k in columns])


def opened(row, maker):
    """A row of asks where the first value is by this maker, the parts in its place; None if it asks for another."""
    first = row[0]
    if first is None:
        return (None,) * len(maker.places) + row[1:]
    if first.maker != maker.name:
        return None
    return asks_of(first.parts) + row[1:]


def closed(maker, found):
    """What was found for the parts of a maker and the values behind, with the value made of these parts."""
    if found is None:
        return None
    size, values = found
    many = len(maker.places)
    return (size + 1, (Made(maker.name, values[:many]),) + values[many:])


def filled(search, kinds, columns, found):
    """What was found for some columns, with the smallest values in all others."""
    if found is None:
        return None
    size = found[0]
    given = list(found[1])
    values = []
    for k, kind in enumerate(kinds):
        if k in columns:
            values.append(given.pop(0))
        else:
            size += search.least[kind][0]
            values.append(search.least[kind][1])
    return (size, tuple(values))


def best_case(search, kinds, rows, goal):
    """As smallest, where the first column is asked for: the best of the cases of its makers."""
    best = None
    for maker in search.makers[kinds[0]]:
        aim = opened(goal, maker)
        if aim is not None:
            left = [one for one in [opened(row, maker) for row in rows] if one is not None]
            found = closed(maker, smallest(search, maker.places + kinds[1:], left, aim))
            if best is None or (found is not None and found[0] < best[0]):
                best = found
    return best


def smallest(search, kinds, rows, goal):
    """The pair (size, values) of the smallest values of these kinds that goal fits and none of the rows; or None.

    Columns that nobody asks for do not matter, so what is found for the others is kept for the next time.
    """
    for row in rows:
        if asks_nothing(row):
            return None
    columns = asked_columns(rows + [goal])
    if len(columns) == 0:
        return filled(search, kinds, columns, (0, ()))
    asked = [picked(one, columns) for one in rows]
    key = (picked(kinds, columns), tuple(asked), picked(goal, columns))
    if key not in search.met:
        search.met[key] = best_case(search, key[0], asked, key[2])
    return filled(search, kinds, columns, search.met[key])
