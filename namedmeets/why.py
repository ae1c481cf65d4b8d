"""Why a part of the answer is what it is."""

from namedmeets.answers import needed
from namedmeets.causes import heights
from namedmeets.flat import row_for
from namedmeets.hanging import cells_on, end_causes, ends_down, makers_down
from namedmeets.labels import word_of
from namedmeets.nets import doing_from, started
from namedmeets.ways import Story


def as_tuples(rows):
    """The tuple of some lists or tuples, as tuples."""
    return tuple([tuple(row) for row in rows])


class Step:
    """A meeting: its line, the label of its worker, the word of the maker, the rows by it, and its causes."""

    def __init__(self, line, label, word, rows, causes):
        self.line = line
        self.label = tuple(label)
        self.word = word
        self.rows = as_tuples(rows)
        self.causes = tuple(causes)


class Why:
    """A part explained: its place and word, the steps that are needed, the rows of the text, the cells of values."""

    def __init__(self, place, word, steps, rows, cells):
        self.place = tuple(place)
        self.word = word
        self.steps = tuple(steps)
        self.rows = as_tuples(rows)
        self.cells = tuple(cells)


def step_of(story, line):
    """The Step of a line of a story."""
    worker, _, word = line.rpartition(".")
    label = story.cell(worker).label
    rows = row_for(story.book.functions[label[1]], word).rows if label[0] == "work" else ()
    return Step(line, label, word, rows, story.causes_of[line])


def rows_in_force(book, steps):
    """The triples (function, index, times) of the rows of the text that come into force at the start and by steps."""
    rows = []
    for start in book.flat.starts:
        if start.name == book.name:
            rows.extend(as_tuples(start.rows))
    for step in steps:
        rows.extend(step.rows)
    times = {}
    for row in rows:
        times[row] = times.get(row, 0) + 1
    told = []
    for start in book.flat.starts:
        indices = sorted([index for name, index in times if name == start.name])
        told.extend([(start.name, index, times[(start.name, index)]) for index in indices])
    return tuple(told)


def explained(story, place, lines):
    """The Why of a place of the answer, with steps for lines in this order, None if no maker stands there.

    The lines are those of the story.
    """
    names = makers_down(story.net, place)
    if names is None:
        return None
    steps = [step_of(story, line) for line in lines]
    word = word_of(story.cell(names[-1]).label)
    return Why(place, word, steps, rows_in_force(story.book, steps), cells_on(story, names))


def why(book, place, fuel):
    """The Why of a place of the answer, None if no state with at most fuel lines has a maker there."""
    lines = needed(book, place, fuel)
    if lines is None:
        return None
    story = Story(book, lines)
    return explained(story, place, [line for line, _ in heights(story)])


def can_be_done(book, lines):
    """Whether lines can be done one after the other from the start net on."""
    work = doing_from(book, started(book))
    for line in lines:
        if line not in work.waiting:
            return False
        work.do(line)
    return True


def all_are_causes(story, place):
    """Whether each line of a story is a cause of one, or of what stands in the answer on the way down to a place."""
    known = {}
    for end in ends_down(makers_down(story.net, place), place):
        for line in end_causes(story, end):
            known[line] = True
    for line in story.lines:
        for cause in story.causes_of[line]:
            known[cause] = True
    return all([line in known for line in story.lines])


def told_steps(told):
    """All that the steps of a Why tell."""
    return [(step.line, step.label, step.word, step.rows, step.causes) for step in told.steps]


def is_why(book, told):
    """Whether a Why holds."""
    lines = [step.line for step in told.steps]
    if not can_be_done(book, lines):
        return False
    story = Story(book, lines)
    right = explained(story, told.place, lines)
    if right is None or told.word != right.word or told.rows != right.rows or told.cells != right.cells:
        return False
    return told_steps(told) == told_steps(right) and all_are_causes(story, told.place)


def step_words(step):
    """The words of the row of a step."""
    words = ["step", step.line]
    for row in step.rows:
        words.extend(["row", *row])
    for cause in step.causes:
        words.extend(["after", cause])
    return words


def told_why(told):
    """The text of a Why."""
    rows = [["place", *told.place], ["word", told.word]]
    rows.extend([step_words(step) for step in told.steps])
    rows.extend([["row", *row] for row in told.rows])
    rows.append(["cells", *told.cells])
    return "".join([" ".join([str(word) for word in row]) + "\n" for row in rows])
