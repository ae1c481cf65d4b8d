"""What a call of a function of the text must be given."""

from namedmeets.errors import BadNumber, BadValue
from namedmeets.patterns import fits
from namedmeets.programs import function_named
from namedmeets.values import is_integer


def called(program, name, values):
    """The Function with this name, if these are values for its places."""
    function = function_named(program, name)
    if not isinstance(values, (list, tuple)) or len(values) != len(function.places):
        raise BadValue(values, "count")
    for value, kind in zip(values, function.places):
        if not fits(program, value, kind):
            raise BadValue(value, "kind")
    return function


def refuse_fuel(fuel):
    """Raises BadNumber if fuel is not an integer from 0 on."""
    if not is_integer(fuel) or fuel < 0:
        raise BadNumber("fuel", fuel)
