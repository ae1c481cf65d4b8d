"""What flat programs mean."""

from namedmeets.calls import called, refuse_fuel
from namedmeets.flat import row_for, start_of
from namedmeets.leading import Namer
from namedmeets.machine import Entry, steps_of, worked_out
from namedmeets.plain import Came
from namedmeets.questions import first_question, looked_at, narrowed
from namedmeets.tables import makers_of


class FlatGuide:
    """Leads a run through a flat program: each call looks at the maker of its first part, which counts 1."""

    def __init__(self, flat):
        self.functions = {function.name: function for function in flat.functions}
        self.makers = makers_of(flat.program.kinds)
        self.known = {}
        self.sign_cost = 2

    def entered(self, name, parts):
        """What a call of a flat function leads to."""
        first = parts[0]
        if (name, first.maker) not in self.known:
            row = row_for(self.functions[name], first.maker)
            self.known[(name, first.maker)] = (row.names, steps_of(row.body, self.makers))
        names, steps = self.known[(name, first.maker)]
        return Entry(steps, list(zip(names, first.parts + parts[1:])), 1)


def flat_plain(flat, name, values, fuel):
    """The value and the count of a function of the text on a list of values, None if the count is above fuel."""
    called(flat.program, name, values)
    refuse_fuel(fuel)
    guide = FlatGuide(flat)
    names, body = start_of(flat, name)
    told = worked_out(guide, Entry(steps_of(body, guide.makers), list(zip(names, values)), 0), fuel)
    return None if told is None else Came(told[0], told[1])


def tests_of(program, name, values):
    """The pair of how many makers are looked at until the row of a function is settled, and its index."""
    question = first_question(called(program, name, values))
    makers = makers_of(program.kinds)
    namer = Namer({})
    left = tuple(values)
    many = 0
    at = looked_at(question)
    while at is not None:
        value = left[at]
        left = value.parts + left[:at] + left[at + 1:]
        question = narrowed(question, at, makers[value.maker][0], namer)
        many += 1
        at = looked_at(question)
    return (many, question.choices[0].index)
