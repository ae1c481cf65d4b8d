"""Logs: texts into which lines are written, whatever happens to them then."""

from namedmeets.errors import BadName, BadText
from namedmeets.states import whole_part
from namedmeets.words import is_big, is_natural, is_written


def is_word(part):
    """Whether a string is a big name, or # and an integer."""
    return is_written(part[1:]) if part[:1] == "#" else is_big(part)


def are_parts(parts):
    """Whether some strings are those that the points of a LINE part: m: and a number, a word, a number, a word .."""
    if len(parts) % 2 == 1 or parts[0][:2] != "m:":
        return False
    numbers = [parts[0][2:], *parts[2::2]]
    return all([is_natural(part) for part in numbers]) and all([is_word(part) for part in parts[1::2]])


def is_line(word):
    """Whether any value is a LINE."""
    return isinstance(word, str) and are_parts(word.split("."))


def parent_of(line):
    """The LINE by which the worker of a LINE came, None if that is in the start net."""
    if not is_line(line):
        raise BadName(line)
    parts = line.split(".")
    return ".".join(parts[:-2]) if len(parts) > 2 else None


def log_text(lines):
    """The texts of a list, each followed by a line feed."""
    return "".join([line + "\n" for line in lines])


def pieces_of(text):
    """What stands in a text ahead of each of its line feeds."""
    if not isinstance(text, str):
        raise BadText(0, 0)
    return text.split("\n")[:-1]


def lines_in(text):
    """The LINEs that are pieces of a log, each once, in the order in which they come first."""
    return tuple(list({piece: True for piece in pieces_of(text) if is_line(piece)}))


def appended(text, lines):
    """A log behind the writing of some LINEs."""
    torn = text != "" and not text.endswith("\n")
    return text + ("\n" if torn else "") + log_text(lines)


def all_lines(texts):
    """The LINEs of some logs, some of them perhaps several times."""
    lines = []
    for text in texts:
        lines.extend(lines_in(text))
    return lines


def held(book, texts):
    """The greatest state within the LINEs of some logs."""
    return whole_part(book, all_lines(texts))


def left_over(book, texts):
    """The sorted LINEs of some logs that are not in what they hold."""
    lines = all_lines(texts)
    state = {line: True for line in whole_part(book, lines)}
    return tuple(sorted(set([line for line in lines if line not in state])))
