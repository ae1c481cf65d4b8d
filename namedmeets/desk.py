"""A desk for programs, runs and halls, which keeps promises."""

from namedmeets.edits import carried
from namedmeets.errors import BadName, BadNumber, BadText, NoName, NotKept, NothingToRedo, NothingToUndo, TakenName
from namedmeets.items import Item, begins_as_head, file_lines, told_items, with_items, with_name
from namedmeets.logs import held
from namedmeets.nets import Book
from namedmeets.programs import Program
from namedmeets.promising import item_of, judged
from namedmeets.values import is_integer
from namedmeets.words import is_small, text_lines


class Shelf:
    """What a desk has at one moment: its items, and its promises."""

    def __init__(self, row, promised):
        self.row = tuple(row)
        self.promised = tuple(promised)


def refuse_no_name(name):
    """Raises BadName for a name that is no string."""
    if not isinstance(name, str):
        raise BadName(name)


def refuse_no_text(text):
    """Raises BadText for a text that is no string."""
    if not isinstance(text, str):
        raise BadText(0, 0)


def item_at(shelf, name):
    """The item with this name, of whichever sort."""
    for item in shelf.row:
        if item.name == name:
            return item
    raise NoName(name)


def refuse_broken(shelf):
    """Raises an error for the first promise that is not kept, or can no longer be asked."""
    for promise in shelf.promised:
        keeps, witness = judged(shelf.row, promise)
        if not keeps:
            raise NotKept(promise, witness)


def edited(item, number, text):
    """The item with the lines of a text in the place of a line, or behind all lines."""
    lines = list(item.lines)
    if not is_integer(number) or number < 1 or number > len(lines) + 1:
        raise BadNumber("line", number)
    new = text_lines(text)
    for k, line in enumerate(new):
        if begins_as_head(line):
            raise BadText(k + 1, 1)
    lines[number - 1:number] = new
    return Item(item.head, lines, None)


def first_word(promise):
    """The name of the item of which a promise tells."""
    return promise.partition(" ")[0]


class Desk:
    """Keeps items, and promises of them: a working object.

    before and behind have the shelves to which undo and redo lead, the next one last in before, first in behind.
    depth tells in how many attempts and trials the desk is.
    """

    def __init__(self, text=""):
        self.shelf = Shelf(with_items((), told_items(text)), ())
        self.before = ()
        self.behind = ()
        self.depth = 0

    def take(self, row, promised):
        """Goes over to other items and promises, by an edit."""
        shelf = Shelf(row, promised)
        if self.depth == 0:
            refuse_broken(shelf)
        self.before = (*self.before, self.shelf)
        self.behind = ()
        self.shelf = shelf

    def put(self, text):
        """Puts the items of a file in the places of those with their names, or behind the last one."""
        self.take(with_items(self.shelf.row, told_items(text)), self.shelf.promised)

    def edit(self, name, number, text):
        """Puts the lines of a text in the place of a line of an item."""
        refuse_no_name(name)
        refuse_no_text(text)
        item = edited(item_at(self.shelf, name), number, text)
        self.take(with_items(self.shelf.row, [(0, item)]), self.shelf.promised)

    def drop(self, name):
        """Takes an item away, and releases the promises of it."""
        refuse_no_name(name)
        item_at(self.shelf, name)
        for item in self.shelf.row:
            if item.on == name:
                raise TakenName(item.name)
        promised = [promise for promise in self.shelf.promised if first_word(promise) != name]
        self.take([item for item in self.shelf.row if item.name != name], promised)

    def rename(self, name, new):
        """Gives an item a new name."""
        if not isinstance(new, str) or not is_small(new):
            raise BadName(new)
        refuse_no_name(name)
        item_at(self.shelf, name)
        if new in self.item_names():
            raise TakenName(new)
        promised = []
        for promise in self.shelf.promised:
            promised.append(new + promise[len(name):] if first_word(promise) == name else promise)
        self.take([with_name(item, name, new) for item in self.shelf.row], promised)

    def keep(self, promise):
        """Makes a promise."""
        judged(self.shelf.row, promise)
        more = () if promise in self.shelf.promised else (promise,)
        self.take(self.shelf.row, self.shelf.promised + more)

    def release(self, promise):
        """Takes a promise back."""
        refuse_no_text(promise)
        if promise not in self.shelf.promised:
            raise NoName(promise)
        self.take(self.shelf.row, [one for one in self.shelf.promised if one != promise])

    def attempt(self, action):
        """Calls a function with the desk as one edit; if an error is raised, nothing has happened."""
        shelf = self.shelf
        before = self.before
        behind = self.behind
        depth = self.depth
        done = None
        try:
            self.before = ()
            self.depth = depth + 1
            self.behind = ()
            told = action(self)
            if depth == 0:
                refuse_broken(self.shelf)
            done = True
        finally:
            self.depth = depth
            self.before = before
            self.behind = behind
            if done is None:
                self.shelf = shelf
        self.before = (*before, shelf)
        self.behind = ()
        return told

    def trial(self, action):
        """Calls a function with the desk; whatever it does, nothing has happened behind it."""
        shelf = self.shelf
        before = self.before
        behind = self.behind
        depth = self.depth
        try:
            self.before = ()
            self.depth = depth + 1
            self.behind = ()
            return action(self)
        finally:
            self.shelf = shelf
            self.before = before
            self.behind = behind
            self.depth = depth

    def undo(self):
        """Takes the last edit back that has not been taken back."""
        if len(self.before) == 0:
            raise NothingToUndo()
        self.behind = (self.shelf, *self.behind)
        self.shelf = self.before[-1]
        self.before = self.before[:-1]

    def redo(self):
        """Does again what undo took back last."""
        if len(self.behind) == 0:
            raise NothingToRedo()
        self.before = (*self.before, self.shelf)
        self.shelf = self.behind[0]
        self.behind = self.behind[1:]

    def file_text(self):
        """The text of the file of all items."""
        return "".join([line + "\n" for line in file_lines(self.shelf.row)])

    def item_names(self):
        """The names of the items, in order."""
        return tuple([item.name for item in self.shelf.row])

    def promises(self):
        """The promises, in the order in which they were made."""
        return self.shelf.promised

    def item(self, name, role):
        """The item of a role with this name."""
        refuse_no_name(name)
        return item_of(self.shelf.row, name, role)

    def get_program(self, name):
        """The Program of a program item, made anew."""
        return Program(self.item(name, "program").own_text())

    def get_book(self, name):
        """The Book of a run item, made anew."""
        book = self.item(name, "run").content.book
        return Book(book.flat, book.name, book.given)

    def get_hall(self, name):
        """The Hall behind the weaving of a hall item, made anew."""
        return self.item(name, "hall").content.fresh_hall()

    def holds(self, promise):
        """The pair of whether a promise is kept, and of the witness, None if it is."""
        return judged(self.shelf.row, promise)

    def broken(self):
        """The pairs (promise, witness) of all promises that are not kept, in order."""
        told = [(promise, self.holds(promise)) for promise in self.shelf.promised]
        return tuple([(promise, witness) for promise, (keeps, witness) in told if not keeps])

    def spared(self, hall, run):
        """The sorted lines held by all logs of a hall together that count for a run, too."""
        refuse_no_name(hall)
        refuse_no_name(run)
        content = self.item(hall, "hall").content
        other = self.item(run, "run").content.book
        played = content.hall()
        lines = held(content.book, [played.log_by(name) for name in played.machine_names()])
        return carried(content.book, other, lines)
