"""What several tests need: checks of errors, slow and simple ways to the same results, and made-up programs.

Nothing here uses the functions that it is compared with.
"""

import sys

from namedmeets.flat import Copy, Flat, FlatFunction, FlatRow, Leave, Start
from namedmeets.trees import Applied, Let, Number, Place, Shape
from namedmeets.values import Made

SIGNS = {
    "+": lambda a, b: a + b,
    "-": lambda a, b: a - b,
    "*": lambda a, b: a * b,
    "<": lambda a, b: Made("Yes" if a < b else "No", ()),
    "=": lambda a, b: Made("Yes" if a == b else "No", ()),
}


def raises(test, error, fields, function, *arguments):
    """Checks that a call raises just this error, with these fields, told as a dict."""
    with test.assertRaises(error) as caught:
        function(*arguments)
    test.assertIs(caught.exception.__class__, error)
    for name, field in fields.items():
        test.assertEqual(getattr(caught.exception, name), field, name)
        test.assertIs(getattr(caught.exception, name).__class__, field.__class__, name)


def chain(depth, end, maker="Cons", ahead=(1,), behind=()):
    """A value that is so many levels deep."""
    value = end
    for _ in range(depth):
        value = Made(maker, tuple(ahead) + (value,) + tuple(behind))
    return value


# Values, in the order of [10]


def makers_by_kind(program):
    return {kind.name: kind.makers for kind in program.kinds}


def values_of_size(program, kind, size, known):
    """All values of a kind with so many cells, numbers being 0, in the order in which their makers stand."""
    if (kind, size) not in known:
        if kind == "Num":
            known[(kind, size)] = [0] if size == 1 else []
        else:
            known[(kind, size)] = [
                Made(maker.name, parts)
                for maker in makers_by_kind(program)[kind]
                for parts in tuples_of_size(program, maker.places, size - 1, known)
            ]
    return known[(kind, size)]


def tuples_of_size(program, kinds, size, known):
    """All tuples of values of these kinds with so many cells, in no order that matters."""
    if not kinds:
        return [()] if size == 0 else []
    found = []
    for first in range(1, size + 1):
        for value in values_of_size(program, kinds[0], first, known):
            for rest in tuples_of_size(program, kinds[1:], size - first, known):
                found.append((value,) + rest)
    return found


def key_of(program, values):
    """How a tuple of values is compared: its size, then the numbers of its makers."""
    numbers = {}
    for kind in program.kinds:
        for k, maker in enumerate(kind.makers):
            numbers[maker.name] = k
    cells = []

    def walk(value):
        cells.append(numbers[value.maker] if isinstance(value, Made) else 0)
        if isinstance(value, Made):
            for part in value.parts:
                walk(part)

    for value in values:
        walk(value)
    return (len(cells), cells)


def smallest_by_trying(program, kinds, wanted, most):
    """The smallest tuple of values of these kinds that is wanted, up to so many cells; None if there is none."""
    known = {}
    for size in range(most + 1):
        found = sorted(tuples_of_size(program, kinds, size, known), key=lambda one: key_of(program, one))
        for values in found:
            if wanted(values):
                return values
    return None


# What rows fit, and what programs mean


def bind(pattern, value, names):
    """Whether a pattern fits; if it does, names has what its Places stand for."""
    if isinstance(pattern, Place):
        names[pattern.name] = value
        return True
    if not isinstance(value, Made) or value.maker != pattern.maker or len(value.parts) != len(pattern.parts):
        return False
    return all([bind(one, part, names) for one, part in zip(pattern.parts, value.parts)])


def first_row(function, values):
    """The index of the first row that fits, and the values of its names; None if there is none."""
    for index, row in enumerate(function.rows):
        names = {}
        if all([bind(pattern, value, names) for pattern, value in zip(row.patterns, values)]):
            return index, names
    return None


class Spent(Exception):
    """More than the fuel was counted."""


class SlowRun:
    """Works out functions of a text or of a flat program by calling itself, and keeps which rows were used."""

    def __init__(self, program, flat, fuel):
        self.program = program
        self.flat = flat
        self.fuel = fuel
        self.count = 0
        self.rows = []
        # The rows of a flat program that were entered, as slow_settled tells them.
        self.entered = []
        self.makers = [maker.name for kind in program.kinds for maker in kind.makers]

    def spend(self, many):
        self.count += many
        if self.count > self.fuel:
            raise Spent

    def size(self, value):
        return 1 + sum([self.size(part) for part in value.parts]) if isinstance(value, Made) else 1

    def text_call(self, name, values):
        function = [one for one in self.program.functions if one.name == name][0]
        index, names = first_row(function, values)
        self.spend(1)
        self.rows.append((name, index))
        return self.value(function.rows[index].body, names)

    def start(self, name, values):
        start = [one for one in self.flat.starts if one.name == name][0]
        self.rows.extend(start.rows)
        self.entered.append((name, None))
        return self.value(start.body, dict(zip(start.names, values)))

    def flat_call(self, name, values):
        function = [one for one in self.flat.functions if one.name == name][0]
        row = [one for one in function.rows if one.maker == values[0].maker][0]
        self.spend(1)
        self.rows.extend(row.rows)
        self.entered.append((name, row.maker))
        return self.value(row.body, dict(zip(row.names, values[0].parts + tuple(values[1:]))))

    def value(self, body, names):
        if isinstance(body, Place):
            return names[body.name]
        if isinstance(body, Number):
            return body.number
        if isinstance(body, Let):
            return self.value(body.body, {**names, body.name: self.value(body.one, names)})
        if isinstance(body, Copy):
            part = self.value(body.part, names)
            self.spend(self.size(part))
            return self.value(body.body, {**names, body.one: part, body.two: part})
        if isinstance(body, Leave):
            self.spend(self.size(self.value(body.part, names)))
            return self.value(body.body, names)
        parts = tuple([self.value(part, names) for part in body.parts])
        if body.name in SIGNS:
            self.spend(1 if self.flat is None else 2)
            return SIGNS[body.name](*parts)
        if body.name in self.makers:
            return Made(body.name, parts)
        return self.text_call(body.name, parts) if self.flat is None else self.flat_call(body.name, parts)


def came_slowly(run, begin, name, values):
    """The value, the count and the sorted rows of a slow run; None above its fuel."""
    limit = sys.getrecursionlimit()
    sys.setrecursionlimit(50000)
    try:
        value = begin(name, tuple(values))
        return value, run.count, sorted(run.rows)
    except Spent:
        return None
    finally:
        sys.setrecursionlimit(limit)


def slow_plain(program, name, values, fuel):
    """What a function comes to by the plain meaning."""
    run = SlowRun(program, None, fuel)
    return came_slowly(run, run.text_call, name, values)


def slow_flat(flat, name, values, fuel):
    """What a function comes to by the flat meaning."""
    run = SlowRun(flat.program, flat, fuel)
    return came_slowly(run, run.start, name, values)


# Flat bodies as texts in which names do not matter


def flat_text(names, body):
    """The text of a flat body: the names a, b, .. for those of the row, then of the Copies, in order of the text."""
    called = {}

    def call(name):
        at = len(called)
        called[name] = "abcdefghijklmnopqrstuvwxyz"[at % 26] + (str(at // 26) if at >= 26 else "")
        return called[name]

    def text(one, inside):
        if isinstance(one, Place):
            return called[one.name]
        if isinstance(one, Number):
            return str(one.number)
        if isinstance(one, Copy):
            part = text(one.part, False)
            told = f"copy {part} to {call(one.one)} {call(one.two)} in {text(one.body, False)}"
        elif isinstance(one, Leave):
            told = f"leave {text(one.part, False)} in {text(one.body, False)}"
        else:
            told = " ".join([one.name] + [text(part, True) for part in one.parts])
            inside = inside and one.parts
        return f"({told})" if inside else told

    for name in names:
        call(name)
    return text(body, False)


def flat_texts(flat):
    """All of a flat program but for its names, as a list of texts."""
    told = []
    for function in flat.functions:
        told.append(f"{function.name} of {function.origin}: {' '.join(function.places)} = {function.result}")
        for row in function.rows:
            text = flat_text(row.names, row.body)
            told.append(f"  {row.maker} {len(row.names)}: {text}{rows_text(row.rows)}")
    for start in flat.starts:
        told.append(f"start {start.name} {len(start.names)}: {flat_text(start.names, start.body)}{rows_text(start.rows)}")
    return told


def rows_text(rows):
    return "".join([f" | {name} {index}" for name, index in rows])


# Settling


def with_bodies(body, bodies):
    """A flat body with others in the place of its names, those that its Copies give made new."""
    if isinstance(body, Place):
        return bodies[body.name]
    if isinstance(body, Number):
        return body
    if isinstance(body, Copy):
        one, two = fresh("s"), fresh("s")
        known = {**bodies, body.one: Place(one), body.two: Place(two)}
        return Copy(with_bodies(body.part, bodies), one, two, with_bodies(body.body, known))
    if isinstance(body, Leave):
        return Leave(with_bodies(body.part, bodies), with_bodies(body.body, bodies))
    return Applied(body.name, [with_bodies(part, bodies) for part in body.parts])


FRESH = [0]


def fresh(word):
    """A name that was never given before."""
    FRESH[0] += 1
    return f"{word}!{FRESH[0]}"


class SlowSettling:
    """Makes steps ahead by calling itself, and keeps which rows come in and how much is counted less."""

    def __init__(self, flat):
        self.functions = {one.name: one for one in flat.functions}
        self.makers = [maker.name for kind in flat.program.kinds for maker in kind.makers]
        self.rows = []
        self.saved = 0

    def done(self, row):
        """The new body, the new rows and what is saved."""
        self.rows, self.saved = list(row.rows), 0
        names = {name: Place(name) for name in row.names}
        body = self.turn(with_bodies(row.body, names))
        return body, tuple(self.rows), self.saved

    def made(self, body):
        return isinstance(body, Applied) and body.name in self.makers

    def turn(self, body):
        if isinstance(body, (Place, Number)):
            return body
        if isinstance(body, Leave):
            part, inner = self.turn(body.part), self.turn(body.body)
            if not self.made(part) and not isinstance(part, Number):
                return Leave(part, inner)
            self.saved += 1
            return self.around(getattr(part, "parts", ()), lambda one, whole: Leave(one, whole), inner)
        if isinstance(body, Copy):
            part, inner = self.turn(body.part), self.turn(body.body)
            if not self.made(part) and not isinstance(part, Number):
                return Copy(part, body.one, body.two, inner)
            self.saved += 1
            if isinstance(part, Number):
                return self.in_place(inner, {body.one: part, body.two: part})
            names = [(one, fresh("s"), fresh("s")) for one in part.parts]
            makers = {body.one: Applied(part.name, [Place(one) for _, one, _ in names]),
                      body.two: Applied(part.name, [Place(two) for _, _, two in names])}
            return self.around(names, lambda one, whole: Copy(*one, whole), self.in_place(inner, makers))
        body = Applied(body.name, [self.turn(part) for part in body.parts])
        return self.applied(body)

    def in_place(self, body, bodies):
        """A body with others in the place of some names."""
        if isinstance(body, Place):
            return bodies.get(body.name, body)
        if isinstance(body, Number):
            return body
        if isinstance(body, Copy):
            return Copy(self.in_place(body.part, bodies), body.one, body.two, self.in_place(body.body, bodies))
        if isinstance(body, Leave):
            return Leave(self.in_place(body.part, bodies), self.in_place(body.body, bodies))
        return Applied(body.name, [self.in_place(part, bodies) for part in body.parts])

    def around(self, ones, make, whole):
        """Forms around a body, the first one outermost."""
        for one in reversed(ones):
            whole = make(one, whole)
        return whole

    def applied(self, body):
        if body.name in SIGNS and all([isinstance(part, Number) for part in body.parts]):
            self.saved += 2
            value = SIGNS[body.name](body.parts[0].number, body.parts[1].number)
            return Applied(value.maker, ()) if isinstance(value, Made) else Number(value)
        if body.name in self.functions and self.made(body.parts[0]):
            self.saved += 1
            row = [one for one in self.functions[body.name].rows if one.maker == body.parts[0].name][0]
            self.rows.extend(row.rows)
            return with_bodies(row.body, dict(zip(row.names, body.parts[0].parts + body.parts[1:])))
        return body


def slow_settled(flat):
    """The settled flat program, and for each row, as (name, its maker, None for Starts), what is counted less."""
    work = SlowSettling(flat)
    saved = {}
    functions = []
    for function in flat.functions:
        rows = []
        for row in function.rows:
            body, texts, saved[(function.name, row.maker)] = work.done(row)
            rows.append(FlatRow(row.maker, row.names, body, texts))
        functions.append(FlatFunction(function.name, function.origin, function.places, function.result, rows))
    starts = []
    for start in flat.starts:
        body, texts, saved[(start.name, None)] = work.done(start)
        starts.append(Start(start.name, start.names, body, texts))
    return Flat(flat.program, functions, starts), saved


# Made-up programs

KINDS = """kind Color = Red | Blue | Green
kind List = Nil | Cons Num List
kind Tree = Leaf | Node Tree Color Tree
kind Pair = Pair Truth List
"""


def some_pattern(random, program, kind, depth, names):
    """A pattern for a kind; its names are put to names."""
    makers = makers_by_kind(program).get(kind, ())
    if depth == 0 or not makers or random.random() < 0.4:
        name = f"x{len(names)}"
        names.append((name, kind))
        return name
    maker = random.choice(makers)
    parts = [some_pattern(random, program, place, depth - 1, names) for place in maker.places]
    return f"({' '.join([maker.name] + parts)})"


def some_value(random, program, kind, depth):
    """A value of a kind, at most so deep but for what its makers need."""
    if kind == "Num":
        return random.randint(-3, 3)
    makers = makers_by_kind(program)[kind]
    if depth <= 0:
        makers = [maker for maker in makers if kind not in maker.places]
    maker = random.choice(makers)
    return Made(maker.name, [some_value(random, program, place, depth - 1) for place in maker.places])


class SomeBody:
    """Makes up bodies: heads are the functions that may be called, as triples (name, places, result)."""

    def __init__(self, random, program, heads):
        self.random = random
        self.program = program
        self.heads = heads
        self.lets = 0

    def leaf(self, kind, names):
        """A body that ends soon."""
        known = [name for name, its in names if its == kind]
        if known and self.random.random() < 0.8:
            return self.random.choice(known)
        if kind == "Num":
            return str(self.random.randint(-2, 5))
        makers = [maker for maker in makers_by_kind(self.program)[kind] if kind not in maker.places]
        maker = self.random.choice(makers)
        parts = [self.leaf(place, names) for place in maker.places]
        return f"({' '.join([maker.name] + parts)})" if parts else maker.name

    def body(self, kind, names, depth):
        """A body of a kind, with parentheses around it if it needs them."""
        if depth == 0:
            return self.leaf(kind, names)
        draw = self.random.random()
        if draw < 0.15:
            self.lets += 1
            name, its = f"l{self.lets}", self.random.choice(["Num", "List", "Truth", "Color"])
            one = self.body(its, names, depth - 1)
            return f"(let {name} = {one} in {self.body(kind, names + [(name, its)], depth - 1)})"
        calls = [one for one in self.heads if one[2] == kind]
        if draw < 0.55 and calls:
            name, places, _ = self.random.choice(calls)
        elif kind == "Num":
            name, places = self.random.choice("+-"), ("Num", "Num")
        elif kind == "Truth" and draw < 0.8:
            name, places = self.random.choice("<="), ("Num", "Num")
        else:
            maker = self.random.choice(makers_by_kind(self.program)[kind])
            name, places = maker.name, maker.places
        parts = [self.body(place, names, depth - 1) for place in places]
        return f"({' '.join([name] + parts)})" if parts else name


def some_program(random, make):
    """A right program, by Program as make: functions of several rows with patterns one above the other."""
    program = make(KINDS)
    kinds = ["Num", "Truth", "Color", "List", "Tree", "Pair"]
    heads = []
    for k in range(random.randint(2, 5)):
        heads.append((f"f{k}", [random.choice(kinds) for _ in range(random.randint(0, 3))], random.choice(kinds)))
    lines = []
    for k, (name, places, result) in enumerate(heads):
        lines.append(" ".join(["fun", name, *places, "=", result]))
        tested = False
        for _ in range(random.randint(0, 4)):
            names = []
            patterns = [some_pattern(random, program, place, 3, names) for place in places]
            # A function without a test may only call what stands ahead of it, so that there is no ring.
            tested = tested or any([pattern.startswith("(") for pattern in patterns])
            if tested:
                body = SomeBody(random, program, heads).body(result, names, 3)
                lines.append(" ".join([name, *patterns, "=", body]))
        names = [(f"y{at}", place) for at, place in enumerate(places)]
        body = SomeBody(random, program, heads if tested else heads[:k]).body(result, names, 3)
        lines.append(" ".join([name, *[one for one, _ in names], "=", body]))
    return make(KINDS + "\n".join(lines)), heads
