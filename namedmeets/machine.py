"""Working out bodies strictly, step by step, so that nothing calls itself however long a run is.

A body is a row of steps that find values, each with those that the steps ahead of it have found. A step is a tuple
whose first word tells what it does:
    ("place", name), ("number", n): one more value;
    ("make", maker, many), ("call", function, many), ("sign", sign): one value instead of the last ones;
    ("let", name), ("copy", one, two), ("leave",): the last value is taken away; a name, two names, or nobody gets it.
"""

from namedmeets.flat import Copy, Leave
from namedmeets.tables import SIGNS
from namedmeets.trees import Let, Number, Place
from namedmeets.values import Made, size_of


def parted(body, makers):
    """What a body comes to: its last step, or bodies and steps, in their order."""
    if isinstance(body, Place):
        return [("place", body.name)]
    if isinstance(body, Number):
        return [("number", body.number)]
    if isinstance(body, Let):
        return [body.one, ("let", body.name), body.body]
    if isinstance(body, Copy):
        return [body.part, ("copy", body.one, body.two), body.body]
    if isinstance(body, Leave):
        return [body.part, ("leave",), body.body]
    if body.name in SIGNS:
        return [*body.parts, ("sign", body.name)]
    word = "make" if body.name in makers else "call"
    return [*body.parts, (word, body.name, len(body.parts))]


def steps_of(body, makers):
    """The steps of a body, in order; makers has the names of all makers."""
    steps = []
    waiting = [body]
    while waiting:
        one = waiting.pop()
        if isinstance(one, tuple):
            steps.append(one)
        else:
            waiting.extend(list(reversed(parted(one, makers))))
    return steps


def sign_value(sign, one, two):
    """What a sign gives for two numbers."""
    if sign == "+":
        return one + two
    if sign == "-":
        return one - two
    if sign == "*":
        return one * two
    holds = one < two if sign == "<" else one == two
    return Made("Yes" if holds else "No", ())


class Entry:
    """A body that is to be worked out: its steps, the values of its names, and what is counted for entering it."""

    def __init__(self, steps, names, cost):
        self.steps = steps
        self.names = dict(names)
        self.cost = cost


class Frame:
    """A body that is being worked out: a working object. at tells how many steps have been made."""

    def __init__(self, entry):
        self.steps = entry.steps
        self.names = entry.names
        self.at = 0


class Machine:
    """A run: a working object.

    guide is an object that tells what a call leads to, entered(name, parts), an Entry, and what a sign costs,
    sign_cost. frames are the bodies that are being worked out, found the values that no step has taken yet.
    """

    def __init__(self, guide):
        self.guide = guide
        self.frames = []
        self.found = []
        self.count = 0

    def enter(self, entry):
        """Begins with a body."""
        self.count += entry.cost
        self.frames.append(Frame(entry))

    def taken(self, many):
        """Takes away the last values that were found."""
        found = self.found
        start = len(found) - many
        parts = tuple(found[start:])
        del found[start:]
        return parts

    def hand_out(self, step, names):
        """Takes the last value away, for the names of the step."""
        value = self.found.pop()
        if step[0] != "let":
            self.count += size_of(value)
        for name in step[1:]:
            names[name] = value

    def take_step(self, step, names):
        """Makes a step."""
        word = step[0]
        if word == "place":
            self.found.append(names[step[1]])
        elif word == "number":
            self.found.append(step[1])
        elif word == "make":
            self.found.append(Made(step[1], self.taken(step[2])))
        elif word == "call":
            self.enter(self.guide.entered(step[1], self.taken(step[2])))
        elif word == "sign":
            one, two = self.taken(2)
            self.count += self.guide.sign_cost
            self.found.append(sign_value(step[1], one, two))
        else:
            self.hand_out(step, names)

    def go_on(self):
        """Makes the next step of the last body, or is through with it."""
        frame = self.frames[-1]
        if frame.at == len(frame.steps):
            self.frames.pop()
        else:
            frame.at += 1
            self.take_step(frame.steps[frame.at - 1], frame.names)


def worked_out(guide, entry, fuel):
    """The pair (value, count) of a body, None if more than fuel is counted."""
    machine = Machine(guide)
    machine.enter(entry)
    while machine.frames and machine.count <= fuel:
        machine.go_on()
    if machine.count > fuel:
        return None
    return (machine.found[0], machine.count)
