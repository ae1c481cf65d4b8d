"""What of the values may be anything without changing a part of the answer."""

from namedmeets.answers import hangs_on
from namedmeets.calls import refuse_fuel
from namedmeets.errors import BadName, BadValue, NoName
from namedmeets.hanging import idle_names, is_of_values, places_on, whole_story
from namedmeets.nets import Book, started
from namedmeets.patterns import fits
from namedmeets.programs import function_named
from namedmeets.tables import NUM, named_in
from namedmeets.values import Made, is_integer, part_at, parts_of, value_with, written_value
from namedmeets.words import is_number


class Anything:
    """Stands for any value of a kind."""

    def __init__(self, kind):
        self.kind = kind

    def __eq__(self, other):
        return isinstance(other, Anything) and self.kind == other.kind

    def __str__(self):
        """What stands for it in the text of a pattern."""
        return "_"


def kinds_of_values(book):
    """The kinds of the values of a book."""
    return function_named(book.flat.program, book.name).places


def pattern_of(book, value, name, kind, cells):
    """The pattern of a value of a kind, its cell having this name, in which cells stand that are among some."""
    met = []
    waiting = [(value, name, kind)]
    while waiting:
        one, called, its = waiting.pop()
        stands = called in cells
        met.append((one, its, stands))
        if stands and isinstance(one, Made):
            kinds = book.makers[one.maker][0].places
            inner = [(part, f"{called}:{k}", kinds[k]) for k, part in enumerate(one.parts)]
            waiting.extend(list(reversed(inner)))
    built = []
    for one, its, stands in reversed(met):
        if not stands:
            built.append(Anything(its))
        elif isinstance(one, Made):
            # The patterns of the parts have been built before, the last one first.
            built.append(Made(one.maker, tuple([built.pop() for _ in one.parts])))
        else:
            built.append(one)
    return built[0]


def general(book, place, fuel):
    """For each value of a book the pattern of which a place of the answer hangs, None above fuel."""
    cells = hangs_on(book, place, fuel)
    if cells is None:
        return None
    known = {name: True for name in cells}
    told = []
    for k, kind in enumerate(kinds_of_values(book)):
        told.append(pattern_of(book, book.given[k], f"a{k}", kind, known))
    return tuple(told)


def is_kind(program, name):
    """Whether a program has a kind with this name, or it is that of numbers."""
    return name == NUM or named_in(program.kinds, name) is not None


def fits_pattern(program, pattern, value):
    """Whether a value comes from a pattern by putting some value that fits for each Anything."""
    waiting = [(pattern, value)]
    while waiting:
        one, part = waiting.pop()
        if isinstance(one, Anything):
            if not is_kind(program, one.kind) or not fits(program, part, one.kind):
                return False
        elif isinstance(one, Made):
            if not isinstance(part, Made) or one.maker != part.maker or len(one.parts) != len(part.parts):
                return False
            waiting.extend(list(zip(one.parts, part.parts)))
        elif not is_integer(part) or one != part:
            return False
    return True


def pattern_text(pattern):
    """The text of a pattern, with _ for each Anything."""
    return written_value(pattern)


def value_place(name):
    """The pair of the index of a value and the place in it of the cell with this name."""
    if not isinstance(name, str) or not is_of_values(name):
        raise BadName(name)
    words = name[1:].split(":")
    for word in words:
        if not is_number(word) or word.startswith("-"):
            raise BadName(name)
    numbers = [int(word) for word in words]
    return (numbers[0], tuple(numbers[1:]))


def kind_at(book, index, place):
    """The kind of the cell at a place of a value of a book."""
    kind = kinds_of_values(book)[index]
    value = book.given[index]
    for k in place:
        kind = book.makers[value.maker][0].places[k]
        value = parts_of(value)[k]
    return kind


def changed(book, name, part):
    """The book with another value in the place of that at the cell with this name."""
    index, place = value_place(name)
    if index >= len(book.given) or part_at(book.given[index], place) is None:
        raise NoName(name)
    if not fits(book.flat.program, part, kind_at(book, index, place)):
        raise BadValue(part, "kind")
    given = list(book.given)
    given[index] = value_with(given[index], place, part)
    return Book(book.flat, book.name, given)


def places_from(book, name, fuel):
    """The places of the answer, in order, that hang on a cell of the values, None if the run is above fuel."""
    refuse_fuel(fuel)
    cells = [cell.name for cell in started(book).cells if is_of_values(cell.name)]
    if name not in cells:
        raise NoName(name)
    story = whole_story(book, fuel)
    return None if story is None else places_on(story, name)


def idle_cells(book, fuel):
    """The sorted cells of the values on which no place of the answer hangs, None if the run is above fuel."""
    refuse_fuel(fuel)
    story = whole_story(book, fuel)
    return None if story is None else idle_names(story)
