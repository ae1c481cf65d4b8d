"""Items of a desk, and the texts of files."""

from namedmeets.deeds import deeds_of
from namedmeets.errors import BadProgram, BadText, NoName
from namedmeets.flatrun import flat_plain
from namedmeets.flatten import flattened
from namedmeets.forms import refuse_formless
from namedmeets.halls import hall_of
from namedmeets.hanging import idle_names, whole_story
from namedmeets.nets import Book
from namedmeets.programs import Program
from namedmeets.values import value_from
from namedmeets.words import split_at_blanks, text_lines

HEADS = (("program", "A"), ("run", "A", "on", "A", "A"), ("hall", "A", "on", "A"))
ROLES = ("program", "run", "hall")
FUEL = 2000


class Item:
    """An item: the words of its head line, and its own lines. content is what was read of it, None before that.

    role, name and on are words of the head line; on is None for a program.
    """

    def __init__(self, head, lines, content):
        self.head = tuple(head)
        self.lines = tuple(lines)
        self.content = content
        self.role = self.head[0]
        self.name = self.head[1]
        self.on = self.head[3] if len(self.head) > 3 else None

    def own_text(self):
        """Its own lines as one text."""
        return "\n".join(self.lines)


class RunContent:
    """What was read of a run: its Book. It keeps what was asked for once."""

    def __init__(self, book):
        self.book = book
        self.known = {}

    def came(self):
        """What the run comes to, None if it comes to no value."""
        if "came" not in self.known:
            self.known["came"] = flat_plain(self.book.flat, self.book.name, self.book.given, FUEL)
        return self.known["came"]

    def idle(self):
        """The cells of the values on which nothing of the value hangs to which the run comes."""
        if "idle" not in self.known:
            # Each count is a meeting.
            self.known["idle"] = idle_names(whole_story(self.book, self.came().count))
        return self.known["idle"]


class HallContent:
    """What was read of a hall: the Book of its run, and its weaving. It keeps what was asked for once."""

    def __init__(self, book, weaving):
        self.book = book
        self.weaving = weaving
        self.known = {}

    def fresh_hall(self):
        """A new Hall behind the weaving."""
        return hall_of(self.book, self.weaving)

    def hall(self):
        """The Hall behind the weaving."""
        if "hall" not in self.known:
            self.known["hall"] = self.fresh_hall()
        return self.known["hall"]


def begins_as_head(line):
    """Whether a line begins as head lines do."""
    return " " in line and line.partition(" ")[0] in ROLES


def head_from(line, number, names):
    """The words of a head line with this number, behind items with these names."""
    words = split_at_blanks(line)
    if words[1][0] in names:
        raise BadText(number, words[1][1])
    refuse_formless(HEADS, words, number)
    return [word for word, _ in words]


def told_items(text):
    """The pairs (number of its head line, item) of the items of a file, none of which has been read yet."""
    if not isinstance(text, str):
        raise BadText(0, 0)
    told = []
    names = {}
    for k, line in enumerate(text_lines(text)):
        if begins_as_head(line):
            head = head_from(line, k + 1, names)
            names[head[1]] = True
            told.append((k + 1, head, []))
        elif told:
            told[-1][2].append(line)
        else:
            raise BadText(k + 1, 1)
    return [(number, Item(head, lines, None)) for number, head, lines in told]


def item_ahead(known, name, role):
    """The item of a role with this name among those that are known."""
    if name not in known or known[name].role != role:
        raise NoName(name)
    return known[name]


def program_content(item, number):
    """The Program of an item whose head line has this number."""
    try:
        return Program(item.own_text())
    except BadText as e:
        raise BadText(number + e.line, e.column)
    except BadProgram as fault:
        raise BadProgram(number + fault.line, fault.what)


def value_in(line, number):
    """The value that the line with this number tells."""
    try:
        return value_from(line)
    except BadText as e:
        raise BadText(number, e.column)


def run_content(item, number, known):
    """What is read of a run whose head line has this number, behind the items that are known."""
    program = item_ahead(known, item.on, "program").content
    values = [value_in(line, number + k) for k, line in enumerate(item.lines, start=1)]
    return RunContent(Book(flattened(program), item.head[4], tuple(values)))


def hall_content(item, number, known):
    """What is read of a hall whose head line has this number, behind the items that are known."""
    book = item_ahead(known, item.on, "run").content.book
    try:
        deeds_of(item.own_text())
    except BadText as e:
        raise BadText(number + e.line, e.column)
    return HallContent(book, item.own_text())


def as_read(item, number, known):
    """An item that is read, behind the items that are known; its head line has this number."""
    if item.role == "program":
        content = program_content(item, number)
    elif item.role == "run":
        content = run_content(item, number, known)
    else:
        content = hall_content(item, number, known)
    return Item(item.head, item.lines, content)


def with_items(items, told):
    """Items with others in the places of those of their names, or behind them; told has pairs as told_items tells.

    What is put is read, and so is anew what is on it, and on that.
    """
    numbers = {item.name: number for number, item in told}
    fresh = {item.name: item for _, item in told}
    row = [fresh.pop(item.name, item) for item in items]
    row.extend(list(fresh.values()))
    known = {}
    anew = {}
    for item in row:
        if item.name in numbers or item.on in anew:
            anew[item.name] = True
            known[item.name] = as_read(item, numbers.get(item.name, 0), known)
        else:
            known[item.name] = item
    return tuple(list(known.values()))


def file_lines(items):
    """The lines of the file of some items."""
    lines = []
    for item in items:
        lines.append(" ".join(item.head))
        lines.extend(item.lines)
    return lines


def with_name(item, name, new):
    """An item that names another one anew, or is itself named anew."""
    head = list(item.head)
    for at in (1, 3):
        if head[at:at + 1] == [name]:
            head[at] = new
    return Item(head, item.lines, item.content)
