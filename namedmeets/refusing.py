"""What the text of a program is refused for, once all its lines are of the right form."""

from namedmeets.bodies import all_in, lets_in, places_in
from namedmeets.checking import has_right_kinds, row_names, tests
from namedmeets.errors import BadProgram
from namedmeets.least import least_values
from namedmeets.patterns import missing
from namedmeets.reading import KindLine
from namedmeets.tables import NUM, heads_of, makers_of, named_in
from namedmeets.trees import Applied, Shape


def refuse_twice(program, lines):
    """Raises BadProgram for the first line that tells a kind, a maker or a function that is told already."""
    kinds = {NUM: True, program.kinds[0].name: True}
    makers = {maker.name: True for maker in program.kinds[0].makers}
    functions = {}
    for one in lines:
        if isinstance(one, KindLine):
            told = [(kinds, one.kind.name)] + [(makers, maker.name) for maker in one.kind.makers]
        else:
            told = [(functions, one.function.name)]
        for names, name in told:
            if name in names:
                raise BadProgram(one.line, "twice")
            names[name] = True


def kinds_named(one):
    """The kinds that a kind or fun line names as places, or behind the =."""
    if isinstance(one, KindLine):
        named = []
        for maker in one.kind.makers:
            named.extend(maker.places)
        return named
    return list(one.function.places) + [one.function.result]


def refuse_unknown_kinds(program, lines):
    """Raises BadProgram for the first line that names a kind that is not told."""
    for one in lines:
        for name in kinds_named(one):
            if name != NUM and named_in(program.kinds, name) is None:
                raise BadProgram(one.line, "kind")


def refuse_empty(program, lines):
    """Raises BadProgram for the first kind that no value fits."""
    least = least_values(program.kinds)
    for one in lines:
        if isinstance(one, KindLine) and one.kind.name not in least:
            raise BadProgram(one.line, "empty")


def fault_of_patterns(makers, patterns, places):
    """The first fault of some patterns for places of these kinds, None if there is none."""
    waiting = list(reversed(list(zip(patterns, places))))
    while waiting:
        one, kind = waiting.pop()
        if isinstance(one, Shape):
            if one.maker not in makers:
                return "maker"
            maker, its_kind = makers[one.maker]
            if its_kind != kind:
                return "kind"
            if len(maker.places) != len(one.parts):
                return "parts"
            waiting.extend(list(reversed(list(zip(one.parts, maker.places)))))
    return None


def binds_twice(row):
    """Whether two of the names that a row binds are the same."""
    names = [one.name for one in lets_in(row.body)]
    for pattern in row.patterns:
        names.extend(places_in(pattern))
    return len(names) != len(set(names))


def fault_of_row(makers, heads, function, row):
    """The first fault of a row of a function, None if there is none."""
    if len(row.patterns) != len(function.places):
        return "places"
    what = fault_of_patterns(makers, row.patterns, function.places)
    if what is not None:
        return what
    if binds_twice(row):
        return "twice"
    applied = [one for one in all_in(row.body) if isinstance(one, Applied)]
    for one in applied:
        if one.name not in heads:
            return "name"
    for one in applied:
        if len(one.parts) != len(heads[one.name][0]):
            return "parts"
    if not has_right_kinds(heads, row_names(makers, function.places, row), row.body, function.result):
        return "kind"
    return None


def refuse_rows(program, fun_lines):
    """Raises BadProgram for the first function without rows, or the first row with a fault."""
    makers = makers_of(program.kinds)
    heads = heads_of(program.kinds, program.functions)
    for one in fun_lines:
        if len(one.function.rows) == 0:
            raise BadProgram(one.line, "rows")
        for line, row in zip(one.row_lines, one.function.rows):
            what = fault_of_row(makers, heads, one.function, row)
            if what is not None:
                raise BadProgram(line, what)


def refuse_missing(program, fun_lines):
    """Raises BadProgram for the first function of which some values are fitted by no row."""
    for one in fun_lines:
        if missing(program, one.function) is not None:
            raise BadProgram(one.line, "missing")


def untested_calls(program):
    """From the name of each function that does not test to those of the functions that its row calls untested."""
    untested = [one for one in program.functions if not tests(one)]
    calls = {}
    for one in untested:
        named = [body.name for body in all_in(one.rows[0].body) if isinstance(body, Applied)]
        calls[one.name] = [name for name in named if named_in(untested, name) is not None]
    return calls


def comes_back(calls, name):
    """Whether some calls, one behind the other, lead from a function to itself."""
    seen = {}
    waiting = list(calls[name])
    while waiting:
        one = waiting.pop()
        if one not in seen:
            seen[one] = True
            waiting.extend(calls[one])
    return name in seen


def refuse_rings(program, fun_lines):
    """Raises BadProgram for the first function on a ring of untested calls."""
    calls = untested_calls(program)
    for one in fun_lines:
        if one.function.name in calls and comes_back(calls, one.function.name):
            raise BadProgram(one.line, "ring")


def refuse_wrong(program, lines):
    """Raises BadProgram for the first fault of a program that was read from these lines."""
    fun_lines = [one for one in lines if not isinstance(one, KindLine)]
    refuse_twice(program, lines)
    refuse_unknown_kinds(program, lines)
    refuse_empty(program, lines)
    refuse_rows(program, fun_lines)
    refuse_missing(program, fun_lines)
    refuse_rings(program, fun_lines)
