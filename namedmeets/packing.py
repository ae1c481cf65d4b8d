"""Packed logs: rows that tell a line by the one by which its worker came."""

from namedmeets.logs import are_parts, is_word, log_text, parent_of, pieces_of
from namedmeets.words import is_natural


def packed(lines):
    """The packed text of a list of LINEs."""
    rows = []
    numbers = {}
    for line in sorted(set(lines)):
        numbers[line] = len(rows)
        above = parent_of(line)
        words = line.split(".")
        if above in numbers:
            # A parent is a beginning of its line, and so comes ahead of it.
            words = [str(len(rows) - numbers[above]), *words[-2:]]
        rows.append(" ".join(words))
    return log_text(rows)


def row_above(told, back):
    """What the row tells that stands as many rows ahead as a word tells; None if there is none, or it tells nothing."""
    # A word with more figures leads to ahead of all rows, and may be no integer for Python.
    if not is_natural(back) or back == "0" or len(back) > len(str(len(told))):
        return None
    at = len(told) - int(back)
    return told[at] if at >= 0 else None


def line_by(told, row):
    """The LINE that a row tells behind others, of which told has what they tell; None if it tells nothing."""
    words = row.split(" ")
    if are_parts(words):
        return ".".join(words)
    if len(words) != 3 or not is_natural(words[1]) or not is_word(words[2]):
        return None
    above = row_above(told, words[0])
    return None if above is None else ".".join([above, *words[1:]])


def unpacked(text):
    """The LINEs that the rows of a packed text tell, each once, in the order in which they come first."""
    told = []
    for row in pieces_of(text):
        told.append(line_by(told, row))
    return tuple(list({line: True for line in told if line is not None}))
