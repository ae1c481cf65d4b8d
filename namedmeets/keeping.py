"""What outlives falls: which lines stand in how many logs."""

from namedmeets.errors import BadNumber
from namedmeets.logs import lines_in
from namedmeets.states import whole_part
from namedmeets.values import is_integer


def lines_by_log(hall):
    """For each machine of a hall the LINEs in its log."""
    return [lines_in(hall.log_by(name)) for name in hall.machine_names()]


def outlives(hall, many):
    """The sorted lines that the logs of the other machines hold, whichever so many of the machines are left out."""
    if not is_integer(many) or many < 0:
        raise BadNumber("many", many)
    counts = {}
    for lines in lines_by_log(hall):
        for line in lines:
            counts[line] = counts.get(line, 0) + 1
    # Whichever logs are left out, a line that more of them have is still in one.
    return whole_part(hall.book, [line for line, count in counts.items() if count > many])


def copies(hall, line):
    """How many logs have a line."""
    return sum([1 for lines in lines_by_log(hall) if line in lines])
