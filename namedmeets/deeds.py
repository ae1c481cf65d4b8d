"""Deeds: what happens in a hall, told line by line."""

from namedmeets.errors import BadText
from namedmeets.forms import refuse_formless
from namedmeets.words import end_of, split_at_blanks

FORMS = (
    ("begin", "A"),
    ("work", "A", "9", "least"),
    ("work", "A", "9", "greatest"),
    ("work", "A", "9", "turn", "9"),
    ("work", "A", "9", "share", "9", "9"),
    ("send", "A", "all"),
    ("send", "A", "new"),
    ("send", "A", "tops"),
    ("tear", "9", "9"),
    ("hand", "9", "A"),
    ("seek", "9", "A", "9"),
    ("fall", "A", "9"),
    ("rise", "A"),
    ("clean", "A"),
)


def deed_of(words, line):
    """The deed that the words of a line tell, with their columns."""
    if words[0][0] != "note":
        refuse_formless(FORMS, words, line)
    elif len(words) == 1:
        raise BadText(line, end_of(words))
    return tuple([word for word, _ in words])


def deeds_of(text):
    """The deeds of a weaving, each a tuple of words."""
    if not isinstance(text, str):
        raise BadText(0, 0)
    deeds = []
    for k, line in enumerate(text.split("\n")):
        words = [(word, column) for word, column in split_at_blanks(line) if word != ""]
        if words:
            deeds.append(deed_of(words, k + 1))
    return tuple(deeds)
