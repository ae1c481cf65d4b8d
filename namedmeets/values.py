"""Values: numbers, and makers with parts. Values may be deep, so nothing here calls itself."""

from namedmeets.errors import BadText, NoName
from namedmeets.words import end_of, is_big, is_number, words_of


class Made:
    """The value that a maker makes of its parts."""

    def __init__(self, maker, parts):
        self.maker = maker
        self.parts = tuple(parts) if isinstance(parts, list) else parts

    def __eq__(self, other):
        waiting = [(self, other)]
        while waiting:
            one, two = waiting.pop()
            if isinstance(one, Made) and isinstance(two, Made):
                if one.maker != two.maker or len(one.parts) != len(two.parts):
                    return False
                waiting.extend(list(zip(one.parts, two.parts)))
            elif isinstance(one, Made) or isinstance(two, Made):
                return False
            elif isinstance(one, bool) != isinstance(two, bool) or one != two:
                return False
        return True


def is_integer(value):
    """Whether any value is an integer, which True and False are not."""
    return isinstance(value, int) and not isinstance(value, bool)


def parts_of(value):
    """The parts of a value; a number has none."""
    return value.parts if isinstance(value, Made) else ()


def size_of(value):
    """How many cells a value has."""
    count = 0
    waiting = [value]
    while waiting:
        one = waiting.pop()
        count += 1
        waiting.extend(parts_of(one))
    return count


def places_of(value):
    """The places of the cells of a value, in order."""
    places = []
    waiting = [(value, ())]
    while waiting:
        one, place = waiting.pop()
        places.append(place)
        parts = parts_of(one)
        for k in reversed(range(len(parts))):
            waiting.append((parts[k], place + (k,)))
    return tuple(places)


def way_down(value, place):
    """The values at the cells from the top down to a place; None if there is no such cell."""
    if not isinstance(place, (list, tuple)):
        return None
    way = [value]
    for k in place:
        parts = parts_of(way[-1])
        if not is_integer(k) or k < 0 or k >= len(parts):
            return None
        way.append(parts[k])
    return way


def part_at(value, place):
    """The value whose cell is at a place; None if there is no such cell."""
    way = way_down(value, place)
    return None if way is None else way[-1]


def value_with(value, place, part):
    """The value with another part at a place."""
    way = way_down(value, place)
    if way is None:
        raise NoName(place)
    new = part
    for depth in reversed(range(len(place))):
        above = way[depth]
        k = place[depth]
        new = Made(above.maker, above.parts[:k] + (new,) + above.parts[k + 1:])
    return new


def written_value(value):
    """The text of a value."""
    pieces = []
    waiting = [value]
    while waiting:
        one = waiting.pop()
        if isinstance(one, str):
            pieces.append(one)
        elif isinstance(one, Made):
            pieces.append(one.maker)
            for part in reversed(one.parts):
                if parts_of(part):
                    waiting.extend([")", part, " ("])
                else:
                    waiting.extend([part, " "])
        else:
            pieces.append(str(one))
    return "".join(pieces)


def may_have_parts(told):
    """Whether a value that is being read may get one more part."""
    return len(told) > 0 and isinstance(told[0], str)


def read_value(told):
    """The value of what was told between two parentheses: a number, a value, or a maker and its parts."""
    if may_have_parts(told):
        return Made(told[0], told[1:])
    return told[0]


def take_word(opened, word):
    """Whether a word can stand behind what was read; if so it is taken to it.

    opened has a list for the text and for each parenthesis that is open: what has been told in it so far.
    """
    told = opened[-1]
    if word == "(":
        if not may_have_parts(told) and (len(opened) > 1 or len(told) > 0):
            return False
        opened.append([])
    elif word == ")":
        if len(opened) == 1 or len(told) == 0:
            return False
        opened.pop()
        opened[-1].append(read_value(told))
    elif len(told) > 0 and not may_have_parts(told):
        return False
    elif is_number(word):
        told.append(int(word))
    elif is_big(word):
        told.append(Made(word, ()) if told else word)
    else:
        return False
    return True


def value_from(text):
    """The value that a text tells."""
    if not isinstance(text, str):
        raise BadText(0, 0)
    words = words_of(text)
    opened = [[]]
    for word, column in words:
        if not take_word(opened, word):
            raise BadText(1, column)
    if len(opened) > 1 or len(opened[0]) == 0:
        raise BadText(1, end_of(words))
    return read_value(opened[0])
