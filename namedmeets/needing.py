"""Doing what is needed, and nothing else. Each of these calls tells whether it is done with at most so many meetings
in all; if not, what is needed is more, or cannot be done at all.
"""

from namedmeets.labels import is_maker, line_of


def bring_maker(work, end, most):
    """Does the least that lets a maker feed a taking end."""
    ends = [end]
    while ends:
        one = ends.pop()
        feeder = work.source[one][0]
        if not is_maker(work.labels[feeder]):
            # It must go, and for this a maker must feed its head.
            ends.extend([one, (feeder, 0)])
        elif ends:
            if len(work.done) >= most:
                return False
            work.do(line_of(one[0], work.labels[feeder]))
    return True


def lines_above(work, line, most):
    """The lengths of those beginnings of a line that are to be done for it, the longest one first.

    They are the line, that by which its worker came, and so on, up to one that was done. There are no more of them
    than make so many meetings in all, and one.
    """
    known = {one.line: True for one in work.done}
    lengths = []
    end = len(line)
    while end > 0 and len(known) + len(lengths) <= most and line[:end] not in known:
        lengths.append(end)
        # The name of the worker stands ahead of the word; that of the line by which it came ahead of its number.
        end = line.rfind(".", 0, max(0, line.rfind(".", 0, end)))
    return lengths


def bring_line(work, line, most):
    """Does the least that has a line, from the start net on. The line may be any string."""
    lengths = lines_above(work, line, most)
    if line == "" or len(work.done) + len(lengths) > most:
        return False
    for length in reversed(lengths):
        one = line[:length]
        worker = one.rpartition(".")[0]
        if worker not in work.labels or is_maker(work.labels[worker]) or not bring_maker(work, (worker, 0), most):
            return False
        if one not in work.waiting or len(work.done) >= most:
            return False
        work.do(one)
    return True
