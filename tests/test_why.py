"""[80] to [83]: a part of the answer explained."""

import random
import unittest

from namedmeets.answers import hangs_on, needed
from namedmeets.causes import causes, heights
from namedmeets.errors import BadNumber, NoName
from namedmeets.flatrun import flat_plain
from namedmeets.nets import done_all, started
from namedmeets.values import Made, part_at, places_of, value_from
from namedmeets.ways import Story
from namedmeets.why import Step, Why, is_why, told_why, why
from tests.helpers import raises, slow_plain
from tests.slownets import some_books
from tests.test_causes import BOTH, EXAMPLE, SOME
from tests.test_demands import FUELS
from tests.test_flatrun import FLAT
from tests.test_nets import book_of

REVERSED = book_of("rev", "Cons 1 (Cons 2 Nil)", flat=FLAT)
HIDDEN = book_of("hidden", "No", flat=FLAT)


def told(one):
    """All of a Why, to compare it."""
    return (one.place, one.word, [(step.line, step.label, step.word, step.rows, step.causes) for step in one.steps],
            one.rows, one.cells)


def copied(one, **new):
    """A Why, or a Step, with some attributes exchanged."""
    if isinstance(one, Step):
        table = {"line": one.line, "label": one.label, "word": one.word, "rows": one.rows, "causes": one.causes, **new}
        return Step(table["line"], table["label"], table["word"], table["rows"], table["causes"])
    table = {"place": one.place, "word": one.word, "steps": one.steps, "rows": one.rows, "cells": one.cells, **new}
    return Why(table["place"], table["word"], table["steps"], table["rows"], table["cells"])


def word_of(value):
    return value.maker if isinstance(value, Made) else f"#{value}"


class Classes(unittest.TestCase):
    def test_attributes(self):
        rows, causes_told, label = [["f", 1]], ["m:0.A"], ["work", "f"]
        step = Step("m:0.A.0.B", label, "B", rows, causes_told)
        rows.append(["g", 0])
        causes_told.append("x")
        label.append(5)
        self.assertEqual((step.line, step.label, step.word, step.rows, step.causes),
                         ("m:0.A.0.B", ("work", "f"), "B", (("f", 1),), ("m:0.A",)))
        place, steps, rows, cells = [0, 1], [step], [("f", 1, 2)], ["a0"]
        one = Why(place, "B", steps, rows, cells)
        for many in (place, steps, rows, cells):
            many.clear()
        self.assertEqual((one.place, one.word, one.steps, one.rows, one.cells),
            ((0, 1), "B", (step,), (("f", 1, 2),), ("a0",)))


class Explained(unittest.TestCase):
    def test_the_example(self):
        one = why(EXAMPLE, (1,), 2)
        self.assertIsInstance(one, Why)
        self.assertIsInstance(one.steps[0], Step)
        self.assertEqual(told(one), ((1,), "Cons", [
            ("m:0.Cons", ("work", "append"), "Cons", (("append", 1),), ()),
            ("m:0.Cons.1.Nil", ("work", "append"), "Nil", (("append", 0),), ("m:0.Cons",)),
        ], (("append", 0, 1), ("append", 1, 1)), ("a0", "a0:1", "a1")))
        self.assertEqual(told(why(EXAMPLE, [0], 1)), ((0,), "#1",
            [("m:0.Cons", ("work", "append"), "Cons", (("append", 1),), ())],
                                                      (("append", 1, 1),), ("a0", "a0:0")))
        self.assertEqual(told(why(EXAMPLE, (1, 0), 99))[0:2], ((1, 0), "#2"))
        self.assertEqual(why(EXAMPLE, (1, 0), 99).cells, ("a0", "a0:1", "a1", "a1:0"))

    def test_steps_of_each_sort(self):
        one = why(SOME.book, (), 99)
        self.assertEqual([step.line for step in one.steps], [line for line, _ in heights(SOME)])
        labels = {step.line: (step.label, step.word, step.rows) for step in one.steps}
        self.assertEqual(labels["m:1.#4"], (("step", "*"), "#4", ()))
        self.assertEqual(labels["m:1.#4.0.#2"], (("step", "*", 4), "#2", ()))
        self.assertEqual(labels["m:3.Node"], (("work", "tree"), "Node", (("tree", 1),)))
        self.assertEqual(labels["m:3.Node.1.Leaf"], (("work", "tree"), "Leaf", (("tree", 0),)))
        # The row of the start comes into force once, and that of tree as often as it is used.
        self.assertEqual(one.rows, (("tree", 0, 2), ("tree", 1, 1), ("some", 0, 1)))
        self.assertEqual((one.word, one.cells), ("#5", ("a0",)))
        two = why(book_of("copies", "Leaf"), (0,), 99)
        self.assertEqual([(step.label, step.word, step.rows) for step in two.steps], [])
        two = why(book_of("copies", "Leaf"), (0, 0), 99)
        self.assertEqual([(step.label, step.word, step.rows) for step in two.steps], [(("copy",), "Leaf", ())])
        self.assertEqual(two.rows, (("copies", 0, 1),))

    def test_starts_and_settled_calls(self):
        # The Start of mixed has no rows; a part that stands in the start net needs no step.
        one = why(book_of("five", flat=FLAT), (), 0)
        self.assertEqual(told(one), ((), "#5", [], (("five", 0, 1),), ()))
        one = why(book_of("same", 7, flat=FLAT), (), 0)
        self.assertEqual(told(one), ((), "#7", [], (("same", 0, 1),), ("a0",)))
        one = why(HIDDEN, (), 5)
        self.assertEqual(one.steps, ())
        self.assertEqual((one.word, one.cells), ("#1", ()))

    def test_none(self):
        for fuel in range(2):
            self.assertIsNone(why(EXAMPLE, (1,), fuel))
        self.assertIsNone(why(book_of("ever", "Yes"), (), 300))
        self.assertIsNone(why(SOME.book, (), len(SOME.lines) - 1))

    def test_errors(self):
        for place, k in (((2,), 0), ((0, 0), 1), ((1, 2), 1), ((1, 1, 0), 2), ((-1,), 0), ((True,), 0), ((1, None), 1)):
            raises(self, NoName, {"name": k}, why, EXAMPLE, place, 99)
        # Too little fuel for the cell that lacks the part.
        self.assertIsNone(why(EXAMPLE, (1, 2), 1))
        for fuel in FUELS:
            for place in ((), (5,), (1, 5)):
                raises(self, BadNumber, {"what": "fuel", "number": fuel}, why, EXAMPLE, place, fuel)

    def test_made_up_runs(self):
        checked = 0
        for seed, book in some_books(range(35)):
            came = flat_plain(book.flat, book.name, book.given, 150)
            if came is None:
                continue
            story = Story(book, done_all(book, started(book), 200)[1])
            rnd = random.Random(seed)
            places = places_of(came.value)
            for place in rnd.sample(places, min(4, len(places))):
                one = why(book, place, 150)
                lines = needed(book, place, 150)
                self.assertEqual(one.place, place)
                self.assertEqual(one.word, word_of(part_at(came.value, place)))
                self.assertEqual([step.line for step in one.steps],
                    [line for line, _ in heights(story) if line in lines])
                self.assertEqual(one.cells, hangs_on(book, place, 150))
                times = {}
                start = [start for start in book.flat.starts if start.name == book.name][0]
                for row in start.rows:
                    times[row] = times.get(row, 0) + 1
                for step in one.steps:
                    worker, _, word = step.line.rpartition(".")
                    self.assertEqual((step.label, step.word), (story.cell(worker).label, word))
                    self.assertEqual(step.causes, causes(story, step.line))
                    rows = ()
                    if step.label[0] == "work":
                        function = [one for one in book.flat.functions if one.name == step.label[1]][0]
                        rows = [row for row in function.rows if row.maker == word][0].rows
                    self.assertEqual(step.rows, rows)
                    for row in rows:
                        times[row] = times.get(row, 0) + 1
                names = [start.name for start in book.flat.starts]
                self.assertEqual(one.rows, tuple(sorted([(name, k, many) for (name, k), many in times.items()],
                                                        key=lambda row: (names.index(row[0]), row[1]))))
                self.assertIs(is_why(book, one), True)
                checked += 1
        self.assertGreater(checked, 100)

    def test_the_same_as_the_plain_meaning_over_a_whole_run(self):
        # Fact (c), for answers on which the whole run is needed.
        for book in (REVERSED, SOME.book, book_of("len", "Cons 3 (Cons 4 Nil)", flat=FLAT)):
            lines = done_all(book, started(book), 200)[1]
            value, _, rows = slow_plain(book.flat.program, book.name, book.given, 500)
            told_times = {}
            for place in places_of(value):
                one = why(book, place, 200)
                for step in one.steps:
                    told_times[step.line] = step.rows
            if sorted(told_times) == list(lines):
                start = [start for start in book.flat.starts if start.name == book.name][0]
                self.assertEqual(sorted([row for some in told_times.values() for row in some] + list(start.rows)), rows)


class IsWhy(unittest.TestCase):
    def setUp(self):
        self.book = SOME.book
        self.one = why(self.book, (), 99)
        self.example = why(EXAMPLE, (1, 0), 99)

    def no(self, book, one, **new):
        self.assertIs(is_why(book, copied(one, **new)), False)

    def test_the_true_one_in_other_orders(self):
        steps = list(self.one.steps)
        orders = 0
        rnd = random.Random(2)
        for _ in range(400):
            order = steps[:]
            rnd.shuffle(order)
            if rnd.random() < 0.5:
                order.sort(key=lambda step: dict(heights(SOME))[step.line])
            lines = [step.line for step in order]
            right = all([cause in lines[:k] for k, step in enumerate(order) for cause in step.causes])
            self.assertIs(is_why(self.book, copied(self.one, steps=order)), right)
            orders += right
        self.assertTrue(50 < orders < 390)

    def test_steps_left_out_doubled_put_in(self):
        for book, one in ((self.book, self.one), (EXAMPLE, self.example)):
            steps = list(one.steps)
            for k, step in enumerate(steps):
                self.no(book, one, steps=steps[:k] + steps[k + 1:])
                self.no(book, one, steps=steps[:k] + [step] + steps[k:])
                self.no(book, one, steps=steps + [step])
        # A step that can be done, but is not needed.
        head = why(EXAMPLE, (0,), 9)
        more = why(EXAMPLE, (1,), 9)
        self.no(EXAMPLE, head, steps=more.steps)
        self.no(EXAMPLE, head, steps=more.steps, rows=more.rows)
        self.no(EXAMPLE, head, steps=more.steps, rows=more.rows, cells=("a0", "a0:0", "a0:1"))
        # A line of no run.
        self.no(EXAMPLE, head, steps=[*head.steps, Step("m:9.A", ("copy",), "A", (), ())])
        self.no(EXAMPLE, head, steps=[*head.steps, Step("", ("copy",), "", (), ())])

    def test_each_attribute_of_a_step(self):
        steps = list(self.one.steps)
        for k, step in enumerate(steps):
            for new in ({"line": "m:9.A"}, {"line": steps[k - 1].line}, {"line": step.line + "."}, {"label": ("copy",)},
                        {"label": step.label + (1,)}, {"label": step.label[:1]}, {"word": step.word + "x"},
                        {"word": ""},
                        {"rows": step.rows + (("tree", 0),)},
                        {"rows": step.rows + step.rows[:1] if step.rows else (("some", 0),)},
                        {"causes": step.causes + ("m:9.A",)},
                        {"causes": step.causes[:-1] if step.causes else ("m:1.#4",)},
                        {"causes": step.causes * 2 if step.causes else ("x",)},
                        {"causes": tuple(reversed(step.causes)) if len(step.causes) > 1 else ("x",)}):
                self.no(self.book, self.one, steps=steps[:k] + [copied(step, **new)] + steps[k + 1:])

    def test_each_attribute(self):
        for book, one in ((self.book, self.one), (EXAMPLE, self.example), (EXAMPLE, why(EXAMPLE, (1,), 9))):
            self.assertIs(is_why(book, copied(one)), True)
            for word in ("", "Nil", "#3", one.word + "0", one.word.lower() + "x"):
                self.no(book, one, word=word)
            for place in ((0, 0), (1, 1), (0,), (5,), (-1,), (1, 0, 0), (1, 2), (2,)):
                if place != one.place:
                    self.no(book, one, place=place)
            for k, row in enumerate(one.rows):
                for new in ((row[0], row[1], row[2] + 1), (row[0], row[1] + 7, row[2]), ("five", row[1], row[2]),
                        (row[0], row[1], 0)):
                    self.no(book, one, rows=one.rows[:k] + (new,) + one.rows[k + 1:])
                self.no(book, one, rows=one.rows[:k] + one.rows[k + 1:])
                self.no(book, one, rows=one.rows + (row,))
            self.no(book, one, rows=())
            self.no(book, one, cells=one.cells[1:])
            self.no(book, one, cells=one.cells + ("a1:1",))
            self.no(book, one, cells=one.cells + one.cells[-1:])
            self.no(book, one, cells=("a9",) + one.cells[1:])
            if len(one.cells) > 1:
                self.no(book, one, cells=tuple(reversed(one.cells)))
        two = why(EXAMPLE, (1,), 9)
        self.no(EXAMPLE, two, rows=tuple(reversed(two.rows)))

    def test_places_at_which_nothing_stands_yet(self):
        head = why(EXAMPLE, (0,), 9)
        for place in ((1,), (1, 0), (0, 0), (2,), (0, -1), (1, 1, 1)):
            self.no(EXAMPLE, head, place=place)
            self.no(EXAMPLE, Why(place, "#1", (), (), ()))
        # A worker stands there, whose function has this name; what is no index leads to no part.
        self.no(EXAMPLE, Why((), "append", (), (), ()))
        self.no(SOME.book, Why((), "-", (), (("some", 0, 1),), ()))
        for place in ((True,), ("1",), (None,), (1.0,)):
            self.no(EXAMPLE, why(EXAMPLE, (1,), 9), place=place)
        self.assertTrue(is_why(EXAMPLE, Why([0], head.word, list(head.steps), list(head.rows), list(head.cells))))

    def test_other_books(self):
        other = book_of("append", "Cons 1 Nil", "Cons 3 Nil", flat=FLAT)
        self.assertTrue(is_why(other, why(EXAMPLE, (1,), 9)))
        self.assertFalse(is_why(other, why(EXAMPLE, (1, 0), 9)))
        self.assertFalse(is_why(other, self.one))

    def test_just_one_why_for_a_place(self):
        # (a) and (b): only the lines that are needed make one, of all sets of lines that are states.
        rnd = random.Random(4)
        rights = 0
        for seed, book in some_books(range(12)):
            came = flat_plain(book.flat, book.name, book.given, 60)
            if came is None:
                continue
            story = Story(book, done_all(book, started(book), 100)[1])
            for place in rnd.sample(places_of(came.value), 1):
                one = why(book, place, 99)
                for _ in range(6):
                    lines = [line for line, _ in heights(story) if line in needed(book, place,
                        99) or rnd.random() < 0.2]
                    steps = [step_of(book, story, line) for line in lines]
                    start = [start for start in book.flat.starts if start.name == book.name][0]
                    rows = list(start.rows) + [row for step in steps for row in step.rows]
                    names = [start.name for start in book.flat.starts]
                    told_rows = sorted({(name, k, rows.count((name, k))) for name, k in rows},
                        key=lambda row: (names.index(row[0]), row[1]))
                    right = is_why(book, copied(one, steps=steps, rows=told_rows))
                    self.assertEqual(right, tuple(sorted(lines)) == needed(book, place, 99))
                    rights += right
        self.assertGreater(rights, 5)


def step_of(book, story, line):
    worker, _, word = line.rpartition(".")
    label = story.cell(worker).label
    rows = ()
    if label[0] == "work":
        function = [one for one in book.flat.functions if one.name == label[1]][0]
        rows = [row for row in function.rows if row.maker == word][0].rows
    return Step(line, label, word, rows, causes(story, line))


class Texts(unittest.TestCase):
    def test_sign_by_sign(self):
        self.assertEqual(told_why(why(EXAMPLE, (1,), 9)), """place 1
word Cons
step m:0.Cons row append 1
step m:0.Cons.1.Nil row append 0 after m:0.Cons
row append 0 1
row append 1 1
cells a0 a0:1 a1
""")
        self.assertEqual(told_why(why(EXAMPLE, (1, 0), 9)).split("\n")[:2], ["place 1 0", "word #2"])
        self.assertEqual(told_why(why(SOME.book, (), 99)), """place
word #5
step m:1.#4
step m:3.Node row tree 1
step m:1.#4.0.#2 after m:1.#4
step m:3.Node.1.Leaf row tree 0 after m:3.Node
step m:3.Node.2.#3 after m:3.Node
step m:3.Node.3.Leaf row tree 0 after m:3.Node
step m:0.#8 after m:1.#4 after m:1.#4.0.#2
step m:3.Node.0.#0 after m:3.Node after m:3.Node.1.Leaf
step m:3.Node.2.#3.0.#0 after m:3.Node.2.#3 after m:3.Node.3.Leaf
step m:3.Node.0.#0.0.#3 after m:3.Node.0.#0 after m:3.Node.2.#3 after m:3.Node.2.#3.0.#0
step m:0.#8.0.#3 after m:0.#8 after m:3.Node after m:3.Node.0.#0 after m:3.Node.0.#0.0.#3
row tree 0 2
row tree 1 1
row some 0 1
cells a0
""")

    def test_without_steps_rows_cells(self):
        self.assertEqual(told_why(why(book_of("five", flat=FLAT), (), 9)), "place\nword #5\nrow five 0 1\ncells\n")
        self.assertEqual(told_why(Why((), "Nil", (), (), ())), "place\nword Nil\ncells\n")
        self.assertEqual(told_why(Why((0, 12), "#-3", [Step("m:0.A", ("copy",), "A", [("f", 0), ("g", 2)],
            ["x", "y"])], [("f", 0, 2)], ["a0"])),
                         "place 0 12\nword #-3\nstep m:0.A row f 0 row g 2 after x after y\nrow f 0 2\ncells a0\n")

    def test_long_runs(self):
        value = value_from("Nil")
        for _ in range(400):
            value = Made("Cons", (1, value))
        book = book_of("len", value, flat=FLAT)
        one = why(book, (), 2000)
        self.assertEqual(len(one.steps), 3 * 400 + 1)
        self.assertTrue(is_why(book, one))
        self.assertEqual(one.rows, (("len", 0, 1), ("len", 1, 400)))
        self.assertEqual(BOTH, tuple([step.line for step in why(EXAMPLE, (1,), 2).steps]))


if __name__ == "__main__":
    unittest.main()
