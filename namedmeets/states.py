"""States: sets of lines that can be done."""

from namedmeets.nets import doing_from, started, worked


def whole_part(book, words):
    """The greatest state all of whose lines are among some words, whatever values these are."""
    work = doing_from(book, started(book))
    work.do_among(words)
    return work.lines_done()


def is_state(book, words):
    """Whether all words are strings, and the lines of a state."""
    lines = {line: True for line in whole_part(book, words)}
    for word in words:
        if not isinstance(word, str) or word not in lines:
            return False
    return True


def joined(book, one, two):
    """The union of two states."""
    return tuple(sorted(set(worked(book, one).lines_done() + worked(book, two).lines_done())))


def common(book, one, two):
    """The intersection of two states."""
    lines = worked(book, one).lines_done()
    others = {line: True for line in worked(book, two).lines_done()}
    return tuple([line for line in lines if line in others])


def next_lines(book, lines):
    """The sorted lines that can be done next behind a state."""
    return tuple(sorted(list(worked(book, lines).waiting)))
