"""Which meetings must come before which."""

from namedmeets.errors import NoName


def is_of(story, line):
    """Whether any value is a line of a story."""
    return isinstance(line, str) and line in story.causes_of


def refuse_line(story, line):
    """Raises NoName if a value is no line of a story."""
    if not is_of(story, line):
        raise NoName(line)


def causes(story, line):
    """The sorted causes of a line of a story."""
    refuse_line(story, line)
    return story.causes_of[line]


def with_pasts(story, lines):
    """A table of some lines of a story and of all that comes ahead of them."""
    found = {}
    left = list(lines)
    while left:
        one = left.pop()
        if one not in found:
            found[one] = True
            left.extend(story.causes_of[one])
    return found


def past(story, line):
    """A line of a story and all that comes ahead of it, sorted."""
    refuse_line(story, line)
    return tuple(sorted(list(with_pasts(story, [line]))))


def height(story, line):
    """How many lines the longest chain has that ends with a line of a story."""
    refuse_line(story, line)
    return story.heights[line]


def heights(story):
    """The pairs (line, height) of all lines, sorted by height, then by line."""
    return tuple(sorted(list(story.heights.items()), key=lambda pair: (pair[1], pair[0])))


def tops(story):
    """The sorted lines of a story that are causes of no line of it."""
    below = {}
    for line in story.lines:
        for cause in story.causes_of[line]:
            below[cause] = True
    return tuple([line for line in story.lines if line not in below])


def chain(story):
    """As many lines as the greatest height, the first one without causes, each one a cause of the next one."""
    if len(story.lines) == 0:
        return ()
    row = [heights(story)[-1][0]]
    while story.causes_of[row[-1]]:
        # A cause that is one less high; of several the last one.
        row.append(max(story.causes_of[row[-1]], key=lambda line: (story.heights[line], line)))
    row.reverse()
    return tuple(row)


def is_chain(story, lines):
    """Whether lines are lines of a story alone, the first one without causes, each one a cause of the next one."""
    for k, line in enumerate(lines):
        if not is_of(story, line):
            return False
        told = story.causes_of[line]
        if k == 0 and len(told) > 0:
            return False
        if k > 0 and lines[k - 1] not in told:
            return False
    return True
