"""Promises: whether items keep them, and what shows that they do not."""

from namedmeets.errors import BadNumber, BadText, NoName
from namedmeets.forms import refuse_formless
from namedmeets.keeping import outlives
from namedmeets.nets import started
from namedmeets.states import next_lines
from namedmeets.values import value_from, written_value
from namedmeets.words import is_small, split_at_blanks

# Of the first form only what stands ahead of the value is looked at.
FORMS = (
    ("A", "gives", "VALUE"),
    ("A", "within", "6"),
    ("A", "spares", "6"),
    ("A", "answers", "A"),
    ("A", "holds", "A", "6"),
    ("A", "outlives", "6", "6"),
    ("A", "double", "6"),
)
OF_RUNS = ("gives", "within", "spares")


def value_behind(promise, ahead):
    """The value that the rest of a promise tells, behind so many signs."""
    try:
        return value_from(promise[ahead:])
    except BadText as e:
        raise BadText(1, ahead + e.column)


def parts_of_promise(promise):
    """The words of a promise as a list; in the place of those behind gives stands the value that they tell."""
    if not isinstance(promise, str):
        raise BadText(0, 0)
    words = split_at_blanks(promise)
    if len(words) > 2 and words[1][0] == "gives" and is_small(words[0][0]):
        return [words[0][0], "gives", value_behind(promise, words[2][1] - 1)]
    refuse_formless(FORMS, words, 1)
    return [word for word, _ in words]


def judge_gives(run, rest):
    """Whether a run comes to a value, and to which one it comes."""
    came = run.came()
    return (False, None) if came is None else (came.value == rest[0], written_value(came.value))


def judge_within(run, rest):
    """Whether a run comes to a value within a count, and its count."""
    came = run.came()
    return (False, None) if came is None else (came.count <= int(rest[0]), came.count)


def judge_spares(run, rest):
    """Whether nothing of a run's value hangs on an argument, and on which of its cells something hangs."""
    book = run.book
    if int(rest[0]) >= len(book.given):
        raise BadNumber("argument", int(rest[0]))
    if run.came() is None:
        return (False, None)
    idle = {name: True for name in run.idle()}
    names = [cell.name for cell in started(book).cells if cell.name.partition(":")[0] == f"a{rest[0]}"]
    hanging = tuple([name for name in names if name not in idle])
    return (len(hanging) == 0, hanging)


def judge_answers(content, rest):
    """Whether nothing can be done next in the state of a machine, and the first line that can."""
    hall = content.hall()
    lines = next_lines(content.book, hall.state_by(rest[0]))
    return (len(lines) == 0, lines[0] if lines else None)


def judge_holds(content, rest):
    """Whether the state of a machine has so many lines, and how many it has."""
    many = len(content.hall().state_by(rest[0]))
    return (many >= int(rest[1]), many)


def judge_outlives(content, rest):
    """Whether so many lines outlive losses, and how many do."""
    many = len(outlives(content.hall(), int(rest[0])))
    return (many >= int(rest[1]), many)


def judge_double(content, rest):
    """Whether no more work was done twice, and how much was."""
    many = content.hall().double_work()
    return (many <= int(rest[0]), many)


JUDGES = {
    "gives": judge_gives, "within": judge_within, "spares": judge_spares, "answers": judge_answers,
    "holds": judge_holds, "outlives": judge_outlives, "double": judge_double,
}


def item_of(items, name, role):
    """The item of a role with this name."""
    for item in items:
        if item.name == name and item.role == role:
            return item
    raise NoName(name)


def judged(items, promise):
    """The pair of whether some items keep a promise, and of the witness, None if they do."""
    parts = parts_of_promise(promise)
    item = item_of(items, parts[0], "run" if parts[1] in OF_RUNS else "hall")
    judge = JUDGES[parts[1]]
    keeps, witness = judge(item.content, parts[2:])
    return (keeps, None if keeps else witness)
