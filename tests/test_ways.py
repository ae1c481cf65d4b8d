"""[44] to [47]: states, going on, ways, what has been."""

import random
import unittest

from namedmeets.errors import BadNet, BadNumber, NoName
from namedmeets.holding import ends_of
from namedmeets.nets import Cell, done_all, net_of, started
from namedmeets.values import value_from
from namedmeets.ways import Story
from tests.helpers import raises
from tests.slownets import ROOT, SlowNet, net_text, some_books, some_run, told
from tests.test_flatrun import FLAT
from tests.test_nets import book_of

EXAMPLE = book_of("append", "Cons 1 Nil", "Cons 2 Nil", flat=FLAT)
BOTH = ("m:0.Cons", "m:0.Cons.1.Nil")
SOME = book_of("some", 4)
ALL = done_all(SOME, started(SOME), 100)[1]


class Attributes(unittest.TestCase):
    def test_book_lines_and_net(self):
        for lines in ([], ["m:0.Cons"], list(BOTH), [*reversed(BOTH), *BOTH], BOTH):
            story = Story(EXAMPLE, lines)
            self.assertIs(story.book, EXAMPLE)
            self.assertEqual(story.lines, tuple(sorted(set(lines))))
            self.assertIs(story.lines.__class__, tuple)
            self.assertTrue(story.net == net_of(EXAMPLE, lines))
            self.assertEqual(net_text(story.net), net_text(net_of(EXAMPLE, lines)))

    def test_lists_of_lines_that_are_no_states(self):
        for lines, line in (
            (["m:0.Nil"], "m:0.Nil"), (["", "m:0.Cons"], ""), (["m:0.Cons.1.Nil"], "m:0.Cons.1.Nil"),
            (["x", *BOTH, "y"], "x"), ([*BOTH, "m:0.Cons.1.Cons", "x"], "m:0.Cons.1.Cons"),
            (["m:0.Cons", "m:0.Cons.1.Nil.0", "m:0.Cons.1.Nil"], "m:0.Cons.1.Nil.0"), (["m:0"], "m:0"),
        ):
            raises(self, BadNet, {"what": line}, Story, EXAMPLE, lines)

    def test_later_changes_of_the_list(self):
        lines = ["m:0.Cons"]
        story = Story(EXAMPLE, lines)
        lines.append("m:0.Cons.1.Nil")
        self.assertEqual(story.lines, ("m:0.Cons",))


class Cells(unittest.TestCase):
    def test_the_example(self):
        story = Story(EXAMPLE, BOTH)
        self.assertEqual(story.all_names(), ("a0", "a0:0", "a0:1", "a1", "a1:0", "a1:1", "m:0", "m:0.Cons.0", "m:0.Cons.1"))
        for name, label, born, gone in (
            ("a0", ("maker", "Cons"), None, "m:0.Cons"), ("a0:0", ("number", 1), None, None),
            ("a0:1", ("maker", "Nil"), None, "m:0.Cons.1.Nil"), ("a1", ("maker", "Cons"), None, None),
            ("m:0", ("work", "append"), None, "m:0.Cons"), ("m:0.Cons.0", ("maker", "Cons"), "m:0.Cons", None),
            ("m:0.Cons.1", ("work", "append"), "m:0.Cons", "m:0.Cons.1.Nil"),
        ):
            cell = story.cell(name)
            self.assertIsInstance(cell, Cell)
            self.assertEqual((cell.name, cell.label), (name, label))
            self.assertEqual((story.born_by(name), story.gone_by(name)), (born, gone))
        story = Story(EXAMPLE, [])
        self.assertEqual(story.all_names(), ("a0", "a0:0", "a0:1", "a1", "a1:0", "a1:1", "m:0"))
        self.assertIsNone(story.gone_by("a0"))

    def test_names_that_no_cell_has(self):
        story = Story(EXAMPLE, ["m:0.Cons"])
        for name in ("", "root", "m:1", "a2", "m:0.Cons", "m:0.Cons.2", "m:0.Cons.1.Nil", "m:0.Nil.0", None, 5, True,
                     ("a0",), ["a0"], {"a0": 1}, value_from("Nil")):
            for method in (story.cell, story.born_by, story.gone_by):
                with self.assertRaises(NoName) as caught:
                    method(name)
                self.assertIs(caught.exception.name, name)
        raises(self, NoName, {"name": "m:0.Cons.0"}, Story(EXAMPLE, []).cell, "m:0.Cons.0")

    def test_made_up_runs(self):
        for seed, book in some_books(range(12)):
            lines = some_run(book, seed, 25)
            story = Story(book, lines)
            slow = SlowNet(book)
            born, gone = {name: None for name in slow.labels}, {}
            labels = dict(slow.labels)
            for line in lines:
                ahead = list(slow.labels)
                slow.meet(line)
                labels.update(slow.labels)
                gone.update({name: line for name in ahead if name not in slow.labels})
                born.update({name: line for name in slow.labels if name not in ahead})
            self.assertEqual(story.all_names(), tuple(sorted(labels)))
            for name, label in labels.items():
                self.assertEqual(story.cell(name).label, label)
                self.assertEqual(story.born_by(name), born[name])
                self.assertEqual(story.gone_by(name), gone.get(name))
            self.assertEqual(told(story.net), told(slow.net()))


class GoingOn(unittest.TestCase):
    def test_the_example(self):
        story = Story(EXAMPLE, BOTH)
        for end, on in (
            (ROOT, ("m:0", 2)), (("m:0", 2), ("m:0.Cons.0", 0)), (("m:0.Cons.0", 0), None), (("m:0", 0), ("a0", 0)),
            (("a0", 0), None), (("m:0", 1), ("a1", 0)), (("a0", 1), ("a0:0", 0)), (("a0", 2), ("a0:1", 0)),
            (("m:0.Cons.0", 1), ("a0", 1)), (("m:0.Cons.0", 2), ("m:0.Cons.1", 2)), (("m:0.Cons.1", 0), ("a0", 2)),
            (("m:0.Cons.1", 1), ("m:0", 1)), (("m:0.Cons.1", 2), ("m:0.Cons.1", 1)), (("a1", 1), ("a1:0", 0)),
            (("a1:1", 0), None), (("a0:0", 0), None),
        ):
            self.assertEqual(story.goes_on(end), on, end)
        # What stands for a giving tail of a worker begins when the worker goes.
        self.assertIsNone(Story(EXAMPLE, ["m:0.Cons"]).goes_on(("m:0.Cons.1", 2)))
        self.assertIsNone(Story(EXAMPLE, []).goes_on(("m:0", 2)))

    def test_ways_of_the_example(self):
        story = Story(EXAMPLE, BOTH)
        tail = (("m:0.Cons.0", 2), ("m:0.Cons.1", 2), ("m:0.Cons.1", 1), ("m:0", 1), ("a1", 0))
        for end, way in (
            (("m:0.Cons.0", 2), tail), (ROOT, (ROOT, ("m:0", 2), ("m:0.Cons.0", 0))),
            (("m:0.Cons.0", 1), (("m:0.Cons.0", 1), ("a0", 1), ("a0:0", 0))), (("a1", 2), (("a1", 2), ("a1:1", 0))),
            (("m:0", 0), (("m:0", 0), ("a0", 0))), (("m:0.Cons.1", 0), (("m:0.Cons.1", 0), ("a0", 2), ("a0:1", 0))),
            (("m:0.Cons.1", 1), tail[2:]), (("m:0", 1), tail[3:]),
        ):
            self.assertEqual(story.way(end), way)
        self.assertEqual(Story(EXAMPLE, ["m:0.Cons"]).way(("m:0.Cons.0", 2)), tail[:2])
        self.assertEqual(Story(EXAMPLE, []).way(ROOT), (ROOT, ("m:0", 2)))

    def test_ways_through_copies_and_steps(self):
        story = Story(SOME, ALL)
        last = ("m:0.#8.0.#3.0", 0)
        self.assertEqual(story.way(ROOT), (ROOT, ("m:0", 2), ("m:0.#8.0", 1), last))
        self.assertEqual(story.way(("m:0", 0)), (("m:0", 0), ("m:1", 2), ("m:1.#4.0", 1), ("m:1.#4.0.#2.0", 0)))
        self.assertEqual(story.way(("m:1.#4.0", 0)), (("m:1.#4.0", 0), ("m:1", 1), ("m:2", 0)))
        book = book_of("both", "Cons 1 Nil", flat=FLAT)
        story = Story(book, done_all(book, started(book), 9)[1])
        self.assertEqual(story.way(("m:1", 2)), (("m:1", 2), ("m:0", 2), ("m:0.Cons.1", 0)))
        self.assertEqual(story.way(("m:0.Cons.0", 2)), (("m:0.Cons.0", 2), ("m:0.Cons.3", 1), ("m:0.Cons.3.Nil.0", 0)))
        self.assertEqual(story.way(("m:0.Cons.3", 0)), (("m:0.Cons.3", 0), ("a0", 2), ("a0:1", 0)))

    def test_errors(self):
        story = Story(SOME, ["m:1.#4"])
        for method in (story.goes_on, story.way):
            for name in ("", "m:9", "a1", "m:1.#4", "m:3.Node.0", "Root", None, 5, ["m:0"], ("m:0",)):
                for number in (0, -1, "x"):
                    raises(self, NoName, {"name": name}, method, (name, number))
            for name, number in (("root", 1), ("root", -1), ("root", True), ("root", None), ("m:0", 3), ("m:0", -1),
                                 ("m:0", "0"), ("m:0", False), ("m:1.#4.0", 2), ("a0", 1), ("m:4", 4), ("m:5", 1),
                                 ("m:3", 2), ("m:1", 1.0)):
                raises(self, BadNumber, {"what": "end", "number": number}, method, (name, number))
        for name, number in (("m:0", 2), ("m:1", 2), ("m:1.#4.0", 1), ("a0", 0), ("m:4", 0), ("m:3", 1), ("m:2", 0)):
            raises(self, BadNumber, {"what": "taking", "number": number}, story.way, (name, number))
            story.goes_on((name, number))

    def check_ways(self, story, ahead):
        """Checks each way of a story, and that ways of a smaller one are their beginnings."""
        source = {taking: giving for giving, taking in story.net.ties}
        standing = [cell.name for cell in story.net.cells]
        met = {}
        ends = [ROOT]
        for name in story.all_names():
            takes = [k for k, (gives, _) in enumerate(ends_of(story.book, story.cell(name).label)) if not gives]
            ends.extend([(name, k) for k in takes])
        for end in ends:
            way = story.way(end)
            self.assertEqual(way[0], end)
            for one, two in zip(way, way[1:] + (None,)):
                self.assertEqual(story.goes_on(one), two)
            self.assertEqual(len(way), len(set(way)))
            if end == ROOT or end[0] in standing:
                # The net ties it to the last end of its way, and no end goes on to it.
                self.assertEqual(way[-1], source[end])
                self.assertIn(way[-1][0], standing)
                for one in way:
                    met[one] = met.get(one, 0) + 1
            if ahead is not None and (end == ROOT or end[0] in ahead.all_names()):
                first = ahead.way(end)
                self.assertEqual(way[:len(first)], first)
        self.assertTrue(all([many == 1 for many in met.values()]))
        return len(ends)

    def test_ways_are_ties_and_grow(self):
        ends = 0
        for seed, book in some_books(range(14)):
            rnd = random.Random(seed)
            lines = some_run(book, seed, 30)
            ahead = None
            for many in sorted([rnd.randint(0, len(lines)) for _ in range(3)] + [len(lines)]):
                mixed = lines[:many] + lines[:2][:many]
                rnd.shuffle(mixed)
                story = Story(book, mixed)
                ends += self.check_ways(story, ahead)
                ahead = story
        self.assertGreater(ends, 1000)


if __name__ == "__main__":
    unittest.main()
