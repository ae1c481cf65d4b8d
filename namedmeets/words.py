"""Words: how a line is cut into them, and which forms they have."""

BIG_LETTERS = "ABCDEFGHIJKLMNOPQRSTUVWXYZ"
SMALL_LETTERS = "abcdefghijklmnopqrstuvwxyz"
DIGITS = "0123456789"
KEYWORDS = ("kind", "fun", "let", "in")
MOST_SIGNS = 24
MOST_DIGITS = 400


def all_among(text, signs):
    """Whether each sign of a text is one of these."""
    for sign in text:
        if sign not in signs:
            return False
    return True


def is_name(word, first_signs):
    """Whether a word is a name whose first sign is one of these."""
    if word == "" or len(word) > MOST_SIGNS or word[0] not in first_signs:
        return False
    return all_among(word, BIG_LETTERS + SMALL_LETTERS + DIGITS + "_")


def is_big(word):
    """Whether a string is a big name."""
    return is_name(word, BIG_LETTERS)


def is_small(word):
    """Whether a string is a small name."""
    return word not in KEYWORDS and is_name(word, SMALL_LETTERS)


def is_natural(word):
    """Whether a string is an integer from 0 on as it is written, of any length."""
    return word.isascii() and word.isdigit() and (word[0] != "0" or word == "0")


def is_written(word):
    """Whether a string is an integer as it is written, of any length."""
    if word[:1] == "-":
        return is_natural(word[1:]) and word != "-0"
    return is_natural(word)


def is_number(word):
    """Whether a string is a number."""
    return is_written(word) and len(word.lstrip("-")) <= MOST_DIGITS


def text_lines(text):
    """The lines of a text, cut at its line feeds; nothing follows the last one if the text ends with it."""
    lines = text.split("\n")
    if lines[-1] == "":
        lines.pop()
    return lines


def words_of(line):
    """The tuple of the pairs (word, its column) of a line, without its remark."""
    words = []
    start = 0
    told = line.partition(";")[0]
    # The blank behind the line ends its last word.
    for at, sign in enumerate(told + " "):
        if sign in " ()":
            if start < at:
                words.append((told[start:at], start + 1))
            if sign != " ":
                words.append((sign, at + 1))
            start = at + 1
    return tuple(words)


def split_at_blanks(line):
    """The pairs (piece, its column) of the pieces of a line between its blanks, empty ones too."""
    pairs = []
    column = 1
    for piece in line.split(" "):
        pairs.append((piece, column))
        column += len(piece) + 1
    return pairs


def end_of(words):
    """The column behind the last one of the words of a line, 1 if it has none."""
    if len(words) == 0:
        return 1
    word, column = words[-1]
    return column + len(word)
