"""Leading a program to a flat one."""

from namedmeets.bodies import all_in, folded
from namedmeets.checking import tests
from namedmeets.flat import Flat, FlatFunction, FlatRow, Start
from namedmeets.leading import Namer, called_in_place, own_names_once, put_in, with_makers
from namedmeets.questions import first_question, looked_at, narrowed
from namedmeets.trees import Applied, Let, Place


def put_first(items, at):
    """A tuple with the item at this index ahead of the others."""
    return (items[at],) + items[:at] + items[at + 1:]


def call_of(name, names, at):
    """The call of a flat function with these names, the one at this index being looked at."""
    return Applied(name, [Place(one) for one in put_first(names, at)])


def functions_named(function, others):
    """The names of those among other functions that the first row of a function names, each as often as there."""
    return [one.name for one in all_in(function.rows[0].body) if isinstance(one, Applied) and one.name in others]


class Flattening:
    """The work of leading a program to a flat one: a working object.

    starts has the Starts that are told, by the names of the functions; led the bodies of rows that have been led
    ([25], the first point), by the name of the function and the index of the row.
    """

    def __init__(self, program):
        self.namer = Namer({})
        self.makers = {kind.name: kind.makers for kind in program.kinds}
        self.functions = {one.name: one for one in program.functions}
        self.settled = {one.name: True for one in program.functions if not tests(one)}
        self.starts = {}
        self.led = {}

    def led_part(self, one, told):
        """What a body of the text is led to, told being what the bodies in it are led to."""
        if isinstance(one, Let):
            return put_in(self.namer, told[0], one.name, told[1])
        if isinstance(one, Applied) and one.name in self.functions:
            return called_in_place(self.namer, self.starts[one.name], told)
        return one.with_inner(told)

    def led_body(self, function, index):
        """The body of a row of the text without lets, and with Starts in the place of calls."""
        key = (function.name, index)
        if key not in self.led:
            body = function.rows[index].body
            self.led[key] = folded(body, lambda one, told: self.led_part(one, told))
        return self.led[key]

    def rows_in_force(self, function, index):
        """The rows of the text that come into force where this one does."""
        rows = [(function.name, index)]
        for one in all_in(function.rows[index].body):
            if isinstance(one, Applied) and one.name in self.settled:
                rows.extend(self.starts[one.name].rows)
        return tuple(rows)

    def body_of(self, function, choice, names):
        """The flat body of the row of a settled question, with these names."""
        body = with_makers(self.namer, choice.looked, self.led_body(function, choice.index))
        return own_names_once(self.namer, names, body)

    def tell_start(self, function):
        """Tells the Start of a function."""
        question = first_question(function)
        at = looked_at(question)
        if at is None:
            names = question.first_names()
            body = self.body_of(function, question.choices[0], names)
            rows = self.rows_in_force(function, 0)
        else:
            names = self.namer.new_names(len(function.places))
            body = call_of(function.name, names, at)
            rows = ()
        self.starts[function.name] = Start(function.name, names, body, rows)

    def can_tell(self, function):
        """Whether all Starts are told that the Start of a function is made of."""
        if function.name not in self.settled:
            return True
        return all([name in self.starts for name in functions_named(function, self.functions)])

    def tell_starts(self):
        """Tells all Starts, each behind those that it is made of."""
        left = list(self.functions.values())
        while left:
            waiting = []
            for function in left:
                if self.can_tell(function):
                    self.tell_start(function)
                else:
                    waiting.append(function)
            left = waiting

    def flat_row(self, function, question, maker, found):
        """The FlatRow for a maker, by which the question has come."""
        at = looked_at(question)
        if at is None:
            choice = question.choices[0]
            names = question.first_names()
            body = self.body_of(function, choice, names)
            return FlatRow(maker.name, names, body, self.rows_in_force(function, choice.index))
        names = self.namer.new_names(len(question.places))
        name = self.tell_function(function, question, at, found)
        return FlatRow(maker.name, names, call_of(name, names, at), ())

    def tell_function(self, function, question, at, found):
        """Puts the flat function of a question, and those behind it, to those found so far; returns its name."""
        slot = len(found)
        name = f"{function.name}/{slot}" if slot > 0 else function.name
        # It stands ahead of those that its rows make.
        found.append(None)
        rows = []
        for maker in self.makers[question.places[at]]:
            rows.append(self.flat_row(function, narrowed(question, at, maker, self.namer), maker, found))
        found[slot] = FlatFunction(name, function.name, put_first(question.places, at), function.result, rows)
        return name

    def flat_functions(self, function):
        """The flat functions of a function of the text, in their order."""
        found = []
        question = first_question(function)
        at = looked_at(question)
        if at is not None:
            self.tell_function(function, question, at, found)
        return found


def flattened(program):
    """The Flat of a program."""
    work = Flattening(program)
    work.tell_starts()
    functions = []
    for function in program.functions:
        functions.extend(work.flat_functions(function))
    return Flat(program, functions, [work.starts[function.name] for function in program.functions])
