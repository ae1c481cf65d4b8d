"""Made-up cases and edits of them, and what is carried from one to another, found slowly."""

import random
import re

from namedmeets.edits import Case, with_part
from namedmeets.errors import JoinError
from namedmeets.programs import Program, written_program
from namedmeets.values import Made, part_at, places_of
from tests.helpers import flat_text, some_program, some_value
from tests.slownets import MAKERS, SlowNet


def edited_text(rnd, text, name):
    """The text of a program with a small edit by chance, often of a row of this function; it may be wrong."""
    lines = text.split("\n")[:-1]
    rows = [k for k, line in enumerate(lines) if not line.startswith("fun ") and not line.startswith("kind ")]
    own = [k for k in rows if lines[k].split(" ")[0] == name]
    k = rnd.choice(own if own and rnd.random() < 0.6 else rows)
    draw = rnd.random()
    if draw < 0.3:
        # Another number.
        head, _, body = lines[k].partition("=")
        lines[k] = head + "=" + re.sub(r"(?<=[ (])-?\d+", lambda _: str(rnd.randint(-2, 9)), body, count=1)
    elif draw < 0.5:
        del lines[k]
    elif draw < 0.65:
        other = rnd.choice(rows)
        lines[k], lines[other] = lines[other], lines[k]
    elif draw < 0.75:
        # A maker with one more part, which nothing makes or looks at unless it is put there, too.
        lines = [line.replace("Leaf |", "Leaf Num |").replace("Leaf ", "(Leaf 3) ") if "kind" not in line else
                 line.replace("Leaf |", "Leaf Num |") for line in lines]
    elif draw < 0.8:
        # Other names.
        lines[k] = re.sub(r"\bx(\d)", r"z\1", lines[k])
    elif draw < 0.9:
        # Two words of the body exchanged.
        head, _, body = lines[k].partition(" = ")
        words = re.findall(r"[^ ()]+", body)
        one, two = rnd.choice(words), rnd.choice(words)
        parts = re.split(r"([ ()])", body)
        lines[k] = head + " = " + "".join([two if part == one else one if part == two else part for part in parts])
    else:
        lines[k] = lines[k].replace("Red", "Blue").replace("Yes", "No").replace("+", "-").replace("Nil = Nil",
            "Nil = Cons 7 Nil")
    return "".join([line + "\n" for line in lines])


def with_some_part(rnd, case):
    """A case with another part somewhere in its values; its kind may be wrong."""
    place = rnd.randrange(len(case.given))
    value = case.given[place]
    path = rnd.choice(places_of(value))
    kinds = {maker.name: kind.name for kind in case.program.kinds for maker in kind.makers}
    part = part_at(value, path)
    kind = kinds[part.maker] if isinstance(part, Made) else "Num"
    return with_part(case, place, path, some_value(rnd, case.program, kind, 2))


def once_edited(rnd, case):
    """The case behind a small edit by chance, itself if that is wrong."""
    try:
        if case.given and rnd.random() < 0.4:
            return with_some_part(rnd, case)
        return Case(edited_text(rnd, case.text, case.name), case.name, case.given)
    except JoinError:
        return case


def edited(rnd, case):
    """The case behind some small edits by chance."""
    for _ in range(rnd.randint(1, 4)):
        case = once_edited(rnd, case)
    return case


def some_cases(seeds):
    """Cases of made-up programs, each with the source of chance."""
    for seed in seeds:
        rnd = random.Random(seed)
        program, heads = some_program(rnd, Program)
        text = written_program(program)
        for name, places, _ in heads:
            yield rnd, Case(text, name, [some_value(rnd, program, place, 3) for place in places])


RICH = """kind List = Nil | Cons Num List
kind Tree = Leaf | Node Tree Num Tree
kind Two = Two List Tree
fun append List List = List
append Nil y = y
append (Cons x t) y = Cons x (append t y)
fun rev List = List
rev Nil = Nil
rev (Cons x t) = append (rev t) (Cons x Nil)
fun twice List = List
twice Nil = Nil
twice (Cons x t) = Cons (+ x x) (twice t)
fun sum List = Num
sum Nil = 0
sum (Cons x t) = + x (sum t)
fun flip Tree = Tree
flip Leaf = Leaf
flip (Node l x r) = Node (flip r) (- 0 x) (flip l)
fun flat Tree = List
flat Leaf = Nil
flat (Node l x r) = append (flat l) (Cons x (flat r))
fun both Tree List = Two
both t l = Two (twice (append l (flat t))) (flip t)
fun zip List List = List
zip Nil y = y
zip (Cons x t) Nil = Nil
zip (Cons x t) (Cons z u) = Cons (* x z) (Cons 1 (zip t u))
fun calc Num Num Num = List
calc a b c = Cons (+ (* a (+ b 2)) (- (* c c) (+ a 1))) (Cons (+ b 4) Nil)
"""


def rich_cases(seeds):
    """Cases with greater answers, each with the source of chance."""
    program = Program(RICH)
    for seed in seeds:
        rnd = random.Random(seed)
        for function in program.functions:
            yield rnd, Case(RICH, function.name, [some_value(rnd, program, place, 4) for place in function.places])


def some_sums(seeds):
    """Cases of sums, for which edits of the text often leave other workers."""
    for seed in seeds:
        rnd = random.Random(seed)
        yield rnd, Case(RICH, "calc", [rnd.randint(-3, 3) for _ in range(3)])


def some_sum(rnd, depth, names):
    """The text of a sum by chance, for a part of a body."""
    if depth == 0 or rnd.random() < 0.25:
        return rnd.choice(names + ["1", "2"])
    if rnd.random() < 0.3:
        name = f"x{len(names)}"
        return f"(let {name} = {some_sum(rnd, depth - 1, names)} in {some_sum(rnd, depth - 1, names + [name])})"
    return f"(+ {some_sum(rnd, depth - 1, names)} {some_sum(rnd, depth - 1, names)})"


def some_wirings(seeds):
    """Pairs of cases with other bodies, and the same small numbers all over, so that many lines have the same names."""
    for seed in seeds:
        rnd = random.Random(seed)
        texts = [f"kind P = P Num Num\nfun f Num Num = P\nf a b = P {some_sum(rnd, 3, ['a', 'b'])} {some_sum(rnd, 3, ['a', 'b'])}\n"
                 for _ in range(2)]
        try:
            yield [Case(text, "f", [1, 1]) for text in texts]
        except JoinError:
            # A name was given twice.
            pass


def flat_rows(book):
    """For each flat function and maker the number of places, that of names, and the body but for its names."""
    return {(function.name, row.maker): (len(function.places), len(row.names), flat_text(row.names, row.body))
            for function in book.flat.functions for row in function.rows}


def is_alike(book, other, net, there, line):
    """Whether a line that can meet in both nets is alike."""
    worker, maker = net.meetings()[line]
    label, met = net.labels[worker], net.labels[maker]
    if there.labels[worker] != label:
        return False
    if met[0] == "maker":
        many = [len(one.places) for kind in book.flat.program.kinds for one in kind.makers if one.name == met[1]]
        more = [len(one.places) for kind in other.flat.program.kinds for one in kind.makers if one.name == met[1]]
        if many != more:
            return False
    if label[0] == "work":
        return flat_rows(book).get((label[1], met[1])) == flat_rows(other).get((label[1], met[1]))
    return True


def carried_slowly(book, other, words):
    """The greatest shared state within some strings, in the order in which it was made."""
    net, there, done = SlowNet(book), SlowNet(other), []
    words = sorted(set(words))
    while True:
        fit = [word for word in words if word in net.meetings() and word in there.meetings()
               and is_alike(book, other, net, there, word)]
        if not fit:
            return done
        done.append(fit[0])
        net.meet(fit[0])
        there.meet(fit[0])


def makers_in(net):
    """The names of the makers of a slow net."""
    return [name for name, label in net.labels.items() if label[0] in MAKERS]
