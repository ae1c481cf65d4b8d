"""Halls: machines that work on one run, fall and come back, and the letters between them."""

from namedmeets.causes import tops
from namedmeets.deeds import deeds_of
from namedmeets.errors import BadNumber, NoName
from namedmeets.hallwork import HallMachine
from namedmeets.logs import lines_in, log_text
from namedmeets.values import is_integer
from namedmeets.ways import Story


def machine_up(hall, name):
    """The machine with this name, None if there is none or it is down."""
    machine = hall.machines.get(name)
    return machine if machine is not None and machine.up else None


def letter_there(hall, word):
    """The letter whose number a word tells, None if there is none."""
    number = int(word)
    return hall.letters[number] if number < len(hall.letters) else None


def begin(hall, deed):
    """begin A"""
    if deed[1] not in hall.machines:
        hall.machines[deed[1]] = HallMachine(hall.book)


def keep_made(hall, lines):
    """Keeps which lines have been made."""
    for line in lines:
        hall.lines_made[line] = True


def work(hall, deed):
    """work A N .."""
    machine = machine_up(hall, deed[1])
    if machine is not None:
        keep_made(hall, machine.make(int(deed[2]), deed[3:]))


def lines_to_send(hall, machine, what):
    """The lines of a letter that a machine sends."""
    if what == "tops":
        return tops(Story(hall.book, machine.state_lines()))
    return [line for line in machine.known if what == "all" or line not in machine.sent]


def send(hall, deed):
    """send A all, send A new, send A tops"""
    machine = machine_up(hall, deed[1])
    if machine is not None:
        lines = lines_to_send(hall, machine, deed[2])
        for line in lines:
            machine.sent[line] = True
        hall.letters.append(log_text(lines))


def note(hall, deed):
    """note WORD .."""
    hall.letters.append(log_text(deed[1:]))


def tear(hall, deed):
    """tear I N"""
    letter = letter_there(hall, deed[1])
    if letter is not None:
        hall.letters[int(deed[1])] = letter[:int(deed[2])]


def hand(hall, deed):
    """hand I A"""
    letter = letter_there(hall, deed[1])
    machine = machine_up(hall, deed[2])
    if letter is not None and machine is not None:
        machine.learn(lines_in(letter))


def seek(hall, deed):
    """seek I A N"""
    letter = letter_there(hall, deed[1])
    machine = machine_up(hall, deed[2])
    if letter is not None and machine is not None:
        keep_made(hall, machine.seek(lines_in(letter), int(deed[3])))


def fall(hall, deed):
    """fall A N"""
    machine = machine_up(hall, deed[1])
    if machine is not None:
        machine.fall(int(deed[2]))


def rise(hall, deed):
    """rise A"""
    machine = hall.machines.get(deed[1])
    if machine is not None and not machine.up:
        machine.rise()


def clean(hall, deed):
    """clean A"""
    machine = machine_up(hall, deed[1])
    if machine is not None:
        machine.clean()


ACTIONS = {
    "begin": begin, "work": work, "send": send, "note": note, "tear": tear, "hand": hand, "seek": seek, "fall": fall,
    "rise": rise, "clean": clean,
}


class Hall:
    """Machines that work on the run of a book, and their letters: a working object."""

    def __init__(self, book):
        self.book = book
        self.machines = {}
        self.letters = []
        self.lines_made = {}

    def do(self, text):
        """Does the deeds of a weaving, in order."""
        for deed in deeds_of(text):
            action = ACTIONS[deed[0]]
            action(self, deed)

    def machine_names(self):
        """The names of the machines, in the order in which they began."""
        return tuple(list(self.machines))

    def letters_sent(self):
        """How many letters there are."""
        return len(self.letters)

    def letter_text(self, number):
        """The letter with this number."""
        if not is_integer(number) or number < 0 or number >= len(self.letters):
            raise BadNumber("letter", number)
        return self.letters[number]

    def machine(self, name):
        """The machine with this name."""
        if not isinstance(name, str) or name not in self.machines:
            raise NoName(name)
        return self.machines[name]

    def is_up(self, name):
        """Whether a machine is up."""
        return self.machine(name).up

    def known_by(self, name):
        """The lines that a machine knows, in order; those in its log if it is down."""
        return self.machine(name).known_lines()

    def state_by(self, name):
        """The state of a machine."""
        return self.machine(name).state_lines()

    def log_by(self, name):
        """The log of a machine."""
        return self.machine(name).log

    def made_by(self, name):
        """How many meetings a machine has made in all its lives."""
        return self.machine(name).made

    def double_work(self):
        """How many meetings were made that had been made before."""
        return sum([machine.made for machine in self.machines.values()]) - len(self.lines_made)


def hall_of(book, text):
    """A new Hall behind the deeds of a weaving."""
    hall = Hall(book)
    hall.do(text)
    return hall
