"""The plain meaning of a program."""

from namedmeets.calls import called, refuse_fuel
from namedmeets.machine import Entry, steps_of, worked_out
from namedmeets.patterns import counting_row
from namedmeets.tables import makers_of


class Came:
    """What a run came to: a value, and what was counted."""

    def __init__(self, value, count):
        self.value = value
        self.count = count


class TextGuide:
    """Leads a run through the text of a program: each call uses the first row that fits, which counts 1."""

    def __init__(self, program):
        self.functions = {function.name: function for function in program.functions}
        self.makers = makers_of(program.kinds)
        self.known = {}
        self.sign_cost = 1

    def row_steps(self, name, index):
        """The steps of the body of a row."""
        if (name, index) not in self.known:
            self.known[(name, index)] = steps_of(self.functions[name].rows[index].body, self.makers)
        return self.known[(name, index)]

    def entered(self, name, parts):
        """What a call of a function leads to."""
        index, pairs = counting_row(self.functions[name], parts)
        return Entry(self.row_steps(name, index), pairs, 1)


def plain(program, name, values, fuel):
    """The value and the count of a function on a list of values, None if more than fuel is counted."""
    called(program, name, values)
    refuse_fuel(fuel)
    guide = TextGuide(program)
    told = worked_out(guide, guide.entered(name, values), fuel)
    return None if told is None else Came(told[0], told[1])
