"""Reading the texts of snapshots."""

from namedmeets.errors import BadText
from namedmeets.tables import SIGNS
from namedmeets.words import is_written

MOST_COUNT = 2000
MOST_FIGURES = 1000


def integer_from(word):
    """The integer that a word tells in its one form, None if it tells none."""
    figures = word[1:] if word[:1] == "-" else word
    # Longer words are no integers for Python.
    return int(word) if is_written(word) and len(figures) <= MOST_FIGURES else None


def natural_from(word):
    """The integer from 0 on that a word tells in its one form, None if it tells none."""
    number = integer_from(word)
    return None if number is None or number < 0 else number


def count_from(line):
    """The count that a line tells, None if it tells none."""
    words = line.split(" ")
    if len(words) != 2 or words[0] != "count":
        return None
    count = natural_from(words[1])
    return None if count is None or count > MOST_COUNT else count


def with_number(ahead, word):
    """A label with the integer that a word tells at its end, None if it tells none."""
    number = integer_from(word)
    return None if number is None else ahead + (number,)


def label_from(book, words):
    """The label that some words tell, None if they tell none of the program."""
    told = tuple(words)
    if told == ("copy",) or told == ("leave",):
        return told
    if told[:1] == ("step",) and told[1:2] and told[1] in SIGNS:
        if len(told) == 2:
            return told
        return with_number(told[:2], told[2]) if len(told) == 3 else None
    if len(told) != 2:
        return None
    if told[0] == "number":
        return with_number(("number",), told[1])
    known = (told[0] == "maker" and told[1] in book.makers) or (told[0] == "work" and told[1] in book.functions)
    return told if known else None


def cell_from(book, words, cells):
    """The pair (name, label) that the words of a cell line tell behind some cells, None if it is wrong."""
    if len(words) < 2 or words[0] != "cell" or words[1] == "" or (cells and words[1] <= cells[-1][0]):
        return None
    label = label_from(book, words[2:])
    return None if label is None else (words[1], label)


def tie_from(words, ties):
    """The tie that the words of a tie line tell behind some ties, None if it is wrong."""
    if len(words) != 5 or words[0] != "tie" or words[1] == "" or words[3] == "":
        return None
    one = natural_from(words[2])
    two = natural_from(words[4])
    if one is None or two is None:
        return None
    tie = ((words[1], one), (words[3], two))
    return None if ties and tie <= ties[-1] else tie


def told_in(book, text):
    """The count, the cells as pairs (name, label), and the ties that the text of a snapshot tells."""
    lines = text.split("\n")
    rest = lines.pop()
    count = count_from(lines[0]) if lines else None
    if count is None:
        raise BadText(1, 1)
    cells = []
    ties = []
    for k in range(1, len(lines)):
        words = lines[k].split(" ")
        cell = None if ties else cell_from(book, words, cells)
        tie = tie_from(words, ties)
        if cell is not None:
            cells.append(cell)
        elif tie is not None:
            ties.append(tie)
        else:
            raise BadText(k + 1, 1)
    if rest != "":
        raise BadText(len(lines) + 1, 1)
    return (count, cells, ties)
