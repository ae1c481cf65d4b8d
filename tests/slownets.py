"""Nets done slowly: a dict of labels and a list of ties in which everything is looked up one by one."""

import random

from namedmeets.flat import Copy, Leave
from namedmeets.flatten import flattened
from namedmeets.nets import Book, Cell, Net
from namedmeets.programs import Program
from namedmeets.trees import Number, Place
from namedmeets.values import Made
from tests.helpers import SIGNS, some_program, some_value

ROOT = ("root", 0)
MAKERS = ("maker", "number")


def label_of(value):
    return ("maker", value.maker) if isinstance(value, Made) else ("number", value)


class SlowNet:
    """The start net of a run, in which meetings are done."""

    def __init__(self, book):
        self.flat = book.flat
        self.labels = {}
        self.ties = []
        start = [one for one in self.flat.starts if one.name == book.name][0]
        self.new = 0
        self.lay(start.body, ROOT, {name: (f"a{k}", 0) for k, name in enumerate(start.names)}, "m:")
        for k, value in enumerate(book.given):
            self.put_value(value, f"a{k}")

    def put_value(self, value, name):
        self.labels[name] = label_of(value)
        for k, part in enumerate(value.parts if isinstance(value, Made) else ()):
            self.put_value(part, f"{name}:{k}")
            self.ties.append(((f"{name}:{k}", 0), (name, k + 1)))

    def put(self, label, word):
        name = word + str(self.new)
        self.new += 1
        self.labels[name] = label
        return name

    def lay(self, body, end, names, word):
        if isinstance(body, Place):
            self.ties.append((names[body.name], end))
        elif isinstance(body, Number):
            self.ties.append(((self.put(("number", body.number), word), 0), end))
        elif isinstance(body, Copy):
            name = self.put(("copy",), word)
            self.lay(body.part, (name, 0), names, word)
            self.lay(body.body, end, {**names, body.one: (name, 1), body.two: (name, 2)}, word)
        elif isinstance(body, Leave):
            name = self.put(("leave",), word)
            self.lay(body.part, (name, 0), names, word)
            self.lay(body.body, end, names, word)
        else:
            makers = [maker.name for kind in self.flat.program.kinds for maker in kind.makers]
            if body.name in makers:
                name = self.put(("maker", body.name), word)
                self.ties.append(((name, 0), end))
                ends = [(name, k + 1) for k in range(len(body.parts))]
            else:
                name = self.put(("step" if body.name in SIGNS else "work", body.name), word)
                self.ties.append(((name, len(body.parts)), end))
                ends = [(name, k) for k in range(len(body.parts))]
            for part, at in zip(body.parts, ends):
                self.lay(part, at, names, word)

    def fed_by(self, end):
        """The giving end to which a taking end is tied; the tie is taken away."""
        tie = [one for one in self.ties if one[1] == end][0]
        self.ties.remove(tie)
        return tie[0]

    def fed(self, end):
        """The taking end to which a giving end is tied; the tie is taken away."""
        tie = [one for one in self.ties if one[0] == end][0]
        self.ties.remove(tie)
        return tie[1]

    def meetings(self):
        """The pairs (worker, maker) by the lines that can be done."""
        found = {}
        for (one, k), (two, n) in self.ties:
            if k == 0 and n == 0 and two != "root" and self.labels[one][0] in MAKERS:
                label = self.labels[one]
                found[f"{two}.{label[1]}" if label[0] == "maker" else f"{two}.#{label[1]}"] = (two, one)
        return found

    def meet(self, line):
        worker, maker = self.meetings()[line]
        self.ties.remove(((maker, 0), (worker, 0)))
        label, met = self.labels.pop(worker), self.labels.pop(maker)
        word = line + "."
        self.new = 0
        parts = []
        while [one for one in self.ties if one[1] == (maker, len(parts) + 1)]:
            parts.append(self.fed_by((maker, len(parts) + 1)))
        if label[0] == "work":
            function = [one for one in self.flat.functions if one.name == label[1]][0]
            row = [one for one in function.rows if one.maker == met[1]][0]
            many = len(function.places)
            others = [self.fed_by((worker, k)) for k in range(1, many)]
            self.lay(row.body, self.fed((worker, many)), dict(zip(row.names, parts + others)), word)
        elif label[0] == "copy":
            cells = [self.put(met, word), self.put(met, word)]
            for k in (0, 1):
                self.ties.append(((cells[k], 0), self.fed((worker, k + 1))))
            for k, part in enumerate(parts):
                copy = self.put(("copy",), word)
                self.ties.append((part, (copy, 0)))
                self.ties.extend([((copy, n + 1), (cells[n], k + 1)) for n in (0, 1)])
        elif label[0] == "leave":
            for part in parts:
                self.ties.append((part, (self.put(("leave",), word), 0)))
        elif len(label) == 2:
            step = self.put(("step", label[1], met[1]), word)
            self.ties.append((self.fed_by((worker, 1)), (step, 0)))
            self.ties.append(((step, 1), self.fed((worker, 2))))
        else:
            made = self.put(label_of(SIGNS[label[1]](label[2], met[1])), word)
            self.ties.append(((made, 0), self.fed((worker, 1))))

    def net(self):
        return Net([Cell(name, label) for name, label in self.labels.items()], self.ties)


def done_slowly(book, words):
    """The greatest subset of some strings that can be done, in an order in which they can."""
    net, done = SlowNet(book), []
    words = sorted(set(words))
    while [word for word in words if word in net.meetings()]:
        done.append([word for word in words if word in net.meetings()][0])
        net.meet(done[-1])
    return done


def told(net):
    """All of a net, to compare it."""
    return [(cell.name, cell.label) for cell in net.cells], net.ties


def some_books(seeds):
    """Books of made-up programs, each with its seed."""
    for seed in seeds:
        rnd = random.Random(seed)
        program, heads = some_program(rnd, Program)
        flat = flattened(program)
        for name, places, _ in heads:
            yield seed, Book(flat, name, [some_value(rnd, program, place, 3) for place in places])


def some_run(book, seed, most):
    """A row of work, up to so many lines, in an order by chance."""
    rnd = random.Random(seed)
    net = SlowNet(book)
    lines = []
    while len(lines) < most and net.meetings():
        lines.append(rnd.choice(sorted(net.meetings())))
        net.meet(lines[-1])
    return lines


def cell_text(cell):
    return " ".join([cell.name] + [str(one) for one in cell.label])


def tie_text(tie):
    return " ".join([str(one) for one in tie[0] + tie[1]])


def net_text(net):
    """A line for each cell, a blank line, and a line for each tie: its giving end, then its taking one."""
    return "".join([cell_text(cell) + "\n" for cell in net.cells] + ["\n"] + [tie_text(tie) + "\n" for tie in net.ties])


def net_from(text):
    """The net that such a text tells; a label is a tuple of words and integers."""
    cells, ties = text.split("\n\n")
    made = []
    for line in cells.split("\n"):
        name, *label = line.split(" ")
        made.append(Cell(name, tuple([int(one) if one.lstrip("-").isdigit() else one for one in label])))
    tied = []
    for line in ties.split("\n"):
        if line:
            one, k, two, n = line.split(" ")
            tied.append(((one, int(k)), (two, int(n))))
    return Net(made, tied)
