"""Meetings: what comes where a worker meets a maker.

Cells are told as pairs (name, label). What comes is told as the pair of the new cells, in the order of their numbers,
and the new ties. Each is a pair (giving point, taking point); a point is an end of a new cell, or a tail of one of the
two cells that meet, which stands for what it is tied to.
"""

from namedmeets.errors import BadNet
from namedmeets.flat import row_for
from namedmeets.labels import is_maker, line_of
from namedmeets.laying import Laid, body_laid
from namedmeets.machine import sign_value
from namedmeets.values import is_integer


def can_meet(book, label, other):
    """Whether a cell with this label is a worker that can meet a maker with the other label."""
    if label[0] == "work":
        function = book.functions.get(label[1])
        return function is not None and other[1] in [row.maker for row in function.rows]
    if label[0] == "step":
        return other[0] == "number"
    return not is_maker(label)


def refuse_meeting(book, worker, maker):
    """Raises BadNet if two cells cannot meet."""
    if not is_maker(maker[1]):
        raise BadNet(worker[0])
    if not can_meet(book, worker[1], maker[1]):
        raise BadNet(line_of(worker[0], maker[1]))


def label_for(value):
    """The label of the maker of a value."""
    return ("number", value) if is_integer(value) else ("maker", value.maker)


def many_parts(book, label):
    """How many parts the makers with this label have."""
    return 0 if label[0] == "number" else len(book.makers[label[1]][0].places)


def laid_by_work(book, word, worker, maker):
    """What comes where a work cell meets a maker."""
    name, label = worker
    function = book.functions[label[1]]
    row = row_for(function, maker[1][1])
    many = len(function.places)
    points = [(maker[0], k) for k in range(1, len(row.names) - many + 2)] + [(name, k) for k in range(1, many)]
    return body_laid(word, book.makers, row.body, (name, many), dict(zip(row.names, points)))


def laid_by_copy(book, word, worker, maker):
    """What comes where a copy cell meets a maker."""
    laid = Laid(word)
    one = laid.put(maker[1])
    two = laid.put(maker[1])
    laid.ties.extend([((one, 0), (worker[0], 1)), ((two, 0), (worker[0], 2))])
    for k in range(1, many_parts(book, maker[1]) + 1):
        copy = laid.put(("copy",))
        laid.ties.extend([((maker[0], k), (copy, 0)), ((copy, 1), (one, k)), ((copy, 2), (two, k))])
    return laid


def laid_by_leave(book, word, maker):
    """What comes where a leave cell meets a maker."""
    laid = Laid(word)
    for k in range(1, many_parts(book, maker[1]) + 1):
        leave = laid.put(("leave",))
        laid.ties.append(((maker[0], k), (leave, 0)))
    return laid


def laid_by_step(word, worker, maker):
    """What comes where a step meets a number."""
    laid = Laid(word)
    name, label = worker
    if len(label) == 2:
        new = laid.put(("step", label[1], maker[1][1]))
        laid.ties.extend([((name, 1), (new, 0)), ((new, 1), (name, 2))])
    else:
        new = laid.put(label_for(sign_value(label[1], label[2], maker[1][1])))
        laid.ties.append(((new, 0), (name, 1)))
    return laid


def brought(book, worker, maker):
    """What comes where a worker meets a maker."""
    refuse_meeting(book, worker, maker)
    word = f"{line_of(worker[0], maker[1])}."
    sort = worker[1][0]
    if sort == "work":
        laid = laid_by_work(book, word, worker, maker)
    elif sort == "copy":
        laid = laid_by_copy(book, word, worker, maker)
    elif sort == "leave":
        laid = laid_by_leave(book, word, maker)
    else:
        laid = laid_by_step(word, worker, maker)
    return (laid.named_cells(), laid.ties)
