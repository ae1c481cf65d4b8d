"""Plans: rounds in which hands do the lines of a state."""

from namedmeets.causes import heights
from namedmeets.errors import BadNumber
from namedmeets.values import is_integer


def refuse_hands(hands):
    """Raises BadNumber if hands is not an integer from 1 on."""
    if not is_integer(hands) or hands < 1:
        raise BadNumber("hands", hands)


def rounds(story):
    """The rounds of which each one has the lines of one height, sorted."""
    rows = []
    for line, height in heights(story):
        if height > len(rows):
            rows.append([])
        rows[-1].append(line)
    return tuple([tuple(row) for row in rows])


def lines_behind(story):
    """For each line of a story the lines of which it is a cause."""
    behind = {line: [] for line in story.lines}
    for line in story.lines:
        for cause in story.causes_of[line]:
            behind[cause].append(line)
    return behind


def plan(story, hands):
    """A busy plan: in each round as many lines are done as hands are there and can be."""
    refuse_hands(hands)
    behind = lines_behind(story)
    lacking = {line: len(story.causes_of[line]) for line in story.lines}
    can_do = [line for line in story.lines if lacking[line] == 0]
    rows = []
    while can_do:
        row = can_do[:hands]
        can_do = can_do[hands:]
        for line in row:
            for other in behind[line]:
                lacking[other] -= 1
                if lacking[other] == 0:
                    can_do.append(other)
        rows.append(tuple(row))
    return tuple(rows)


def round_numbers(rows):
    """For each line of some rounds the number of its round; None if one stands twice."""
    numbers = {}
    for k, row in enumerate(rows):
        for line in row:
            if line in numbers:
                return None
            numbers[line] = k
    return numbers


def last_cause(story, numbers, line):
    """The number of the last round in which a cause of a line stands, -1 if it has none."""
    return max([numbers[cause] for cause in story.causes_of[line]], default=-1)


def is_plan(story, hands, rows):
    """Whether rounds are a plan for so many hands."""
    refuse_hands(hands)
    for row in rows:
        if len(row) == 0 or len(row) > hands:
            return False
    numbers = round_numbers(rows)
    if numbers is None or sorted(list(numbers)) != list(story.lines):
        return False
    for line in story.lines:
        if last_cause(story, numbers, line) >= numbers[line]:
            return False
    return True


def is_busy(story, hands, rows):
    """Whether rounds are a busy plan for so many hands."""
    if not is_plan(story, hands, rows):
        return False
    numbers = round_numbers(rows)
    # The last round so far that has fewer lines than hands.
    short = -1
    for k, row in enumerate(rows):
        for line in row:
            if last_cause(story, numbers, line) < short:
                return False
        if len(row) < hands:
            short = k
    return True
