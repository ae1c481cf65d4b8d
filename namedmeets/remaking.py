"""Runs that go on through edits."""

from namedmeets.calls import refuse_fuel
from namedmeets.edits import carried
from namedmeets.errors import BadNumber
from namedmeets.meaning import ends_within
from namedmeets.nets import answer_of, doing_from, net_in, started
from namedmeets.values import is_integer


def lines_lacking(lines, others):
    """How many of some lines are not among others."""
    table = {line: True for line in others}
    return len([line for line in lines if line not in table])


class Remake:
    """A run that goes on through edits: a working object. work is its state, in the net of the present case."""

    def __init__(self, case):
        self.case = case
        self.lines = ()
        self.pasts = ()
        self.made = 0
        self.work = doing_from(case.book, started(case.book))

    def go(self, many):
        """Makes up to so many meetings, the least line first; returns how many it made."""
        if not is_integer(many) or many < 0:
            raise BadNumber("many", many)
        made = self.work.do_least(many)
        self.lines = self.work.lines_done()
        self.made += made
        return made

    def hear(self, lines):
        """Takes over as many of some lines as can be done behind its own; returns how many came new."""
        ahead = len(self.work.done)
        self.work.do_among(lines)
        self.lines = self.work.lines_done()
        return len(self.lines) - ahead

    def change(self, case):
        """Goes over to another case; returns how many lines do not stand any more, and how many came to stand."""
        if case == self.case:
            return (0, 0)
        left = (*self.pasts, (self.case, self.lines))
        lines = []
        for past, state in left:
            lines.extend(state if past == case else carried(past.book, case.book, state))
        old = self.lines
        self.pasts = tuple([pair for pair in left if pair[0] != case])
        self.case = case
        self.work = doing_from(case.book, started(case.book))
        self.work.do_among(lines)
        self.lines = self.work.lines_done()
        return (lines_lacking(old, self.lines), lines_lacking(self.lines, old))

    def answer(self):
        """The answer, None as long as a meeting can be made."""
        return None if self.work.waiting else answer_of(net_in(self.work))


def costs(cases, fuel):
    """For each case how many lines stand when a Remake comes to it, and how many are made then."""
    refuse_fuel(fuel)
    for case in cases:
        if not ends_within(case.book, fuel):
            raise BadNumber("fuel", fuel)
    told = []
    remake = None
    for case in cases:
        if remake is None:
            remake = Remake(case)
        remake.change(case)
        stood = len(remake.lines)
        told.append((stood, remake.go(fuel)))
    return tuple(told)
