"""[48] to [50]: causes, pasts, heights, tops, chains."""

import random
import unittest

from namedmeets.causes import causes, chain, height, heights, is_chain, past, tops
from namedmeets.errors import NoName, TooMany
from namedmeets.holding import ends_of
from namedmeets.nets import done_all, started
from namedmeets.values import value_from
from namedmeets.ways import Story
from tests.helpers import raises
from tests.slownets import done_slowly, some_books, some_run
from tests.test_flatrun import FLAT
from tests.test_nets import book_of

EXAMPLE = book_of("append", "Cons 1 Nil", "Cons 2 Nil", flat=FLAT)
BOTH = ("m:0.Cons", "m:0.Cons.1.Nil")


def whole(book):
    return Story(book, done_all(book, started(book), 2000)[1])


SOME = whole(book_of("some", 4))
REV = whole(book_of("rev", "Cons 1 (Cons 2 Nil)", flat=FLAT))


def told_causes(story, line):
    """The causes of a line by what the story tells of its cells and ways."""
    worker = line.rpartition(".")[0]
    way = story.way((worker, 0))
    lines = [story.born_by(worker), story.born_by(way[-1][0])]
    for name, number in way[:-1]:
        if name != "root" and ends_of(story.book, story.cell(name).label)[number][0]:
            lines.append(story.gone_by(name))
    return tuple(sorted(set([one for one in lines if one is not None])))


class Causes(unittest.TestCase):
    def test_the_example(self):
        story = Story(EXAMPLE, BOTH)
        self.assertEqual(causes(story, "m:0.Cons"), ())
        self.assertEqual(causes(story, "m:0.Cons.1.Nil"), ("m:0.Cons",))
        self.assertEqual(past(story, "m:0.Cons"), ("m:0.Cons",))
        self.assertEqual(past(story, "m:0.Cons.1.Nil"), BOTH)

    def test_what_comes_by_the_worker_the_maker_and_the_way(self):
        # - (* n 2) (tree (Node Leaf 3 Leaf)), with 4: the last step meets what the whole of tree came to.
        for line, told in (
            ("m:1.#4", ()), ("m:1.#4.0.#2", ("m:1.#4",)), ("m:3.Node", ()), ("m:3.Node.1.Leaf", ("m:3.Node",)),
            ("m:0.#8", ("m:1.#4", "m:1.#4.0.#2")), ("m:3.Node.2.#3", ("m:3.Node",)),
            ("m:3.Node.0.#0", ("m:3.Node", "m:3.Node.1.Leaf")),
            ("m:3.Node.2.#3.0.#0", ("m:3.Node.2.#3", "m:3.Node.3.Leaf")),
            ("m:3.Node.0.#0.0.#3", ("m:3.Node.0.#0", "m:3.Node.2.#3", "m:3.Node.2.#3.0.#0")),
            ("m:0.#8.0.#3", ("m:0.#8", "m:3.Node", "m:3.Node.0.#0", "m:3.Node.0.#0.0.#3")),
        ):
            self.assertEqual(causes(SOME, line), told)
            self.assertIs(causes(SOME, line).__class__, tuple)
        self.assertEqual(past(SOME, "m:0.#8.0.#3"), SOME.lines)
        self.assertEqual(past(SOME, "m:0.#8"), ("m:0.#8", "m:1.#4", "m:1.#4.0.#2"))
        # A cause that one line alone tells by each of its ways: the giving tail of a copy on the way of a head.
        story = whole(book_of("dbl", 5, flat=FLAT))
        self.assertEqual(causes(story, "m:1.#5"), ("m:0.#5",))
        self.assertEqual(causes(story, "m:1.#5.0.#5"), ("m:0.#5", "m:1.#5"))

    def test_made_up_runs(self):
        # By the definition; and the past is what a line cannot be done without.
        pasts = 0
        for seed, book in some_books(range(20)):
            lines = some_run(book, seed, 22)
            story = Story(book, lines)
            rnd = random.Random(seed)
            for line in lines:
                self.assertEqual(causes(story, line), told_causes(story, line))
            for line in rnd.sample(lines, min(2, len(lines))):
                needs = [one for one in lines if line not in done_slowly(book, [two for two in lines if two != one])]
                self.assertEqual(past(story, line), tuple(sorted(needs)))
                pasts += 1
        self.assertGreater(pasts, 80)

    def test_the_same_in_a_state_and_in_a_greater_one(self):
        for seed, book in some_books(range(15)):
            lines = some_run(book, seed, 30)
            story = Story(book, lines)
            part = Story(book, lines[:len(lines) // 2])
            for line in part.lines:
                self.assertEqual(causes(part, line), causes(story, line))
                self.assertEqual(past(part, line), past(story, line))
                self.assertEqual(height(part, line), height(story, line))
                self.assertTrue(is_chain(story, chain(part)))
            # Each run does the lines behind their causes.
            for k, line in enumerate(lines):
                self.assertTrue(all([cause in lines[:k] for cause in causes(story, line)]))

    def test_lines_that_are_not_in_the_story(self):
        part = Story(book_of("some", 4), ["m:1.#4"])
        for line in ("m:3.Node", "", "m:1", "m:1.#4.0", "m:1.#4.0.#2", "m:1.#5", None, 5, True, ["m:1.#4"], ("m:1.#4",),
                     {"m:1.#4": 1}, value_from("Nil"), part):
            for call in (causes, past, height):
                with self.assertRaises(NoName) as caught:
                    call(part, line)
                self.assertIs(caught.exception.name, line)
        raises(self, NoName, {"name": "m:0.Cons"}, past, Story(EXAMPLE, []), "m:0.Cons")


class Heights(unittest.TestCase):
    def test_some(self):
        self.assertEqual(heights(SOME), (
            ("m:1.#4", 1), ("m:3.Node", 1), ("m:1.#4.0.#2", 2), ("m:3.Node.1.Leaf", 2), ("m:3.Node.2.#3", 2),
            ("m:3.Node.3.Leaf", 2), ("m:0.#8", 3), ("m:3.Node.0.#0", 3), ("m:3.Node.2.#3.0.#0", 3),
            ("m:3.Node.0.#0.0.#3", 4), ("m:0.#8.0.#3", 5)))
        for line, told in heights(SOME):
            self.assertEqual(height(SOME, line), told)
        self.assertIs(heights(SOME)[0].__class__, tuple)
        self.assertEqual(heights(Story(EXAMPLE, [])), ())

    def test_made_up_runs(self):
        for seed, book in some_books(range(20)):
            story = Story(book, some_run(book, seed, 40))
            told = dict(heights(story))
            self.assertEqual(tuple(sorted(told)), story.lines)
            self.assertEqual([pair for pair in heights(story)], sorted(told.items(), key=lambda one: (one[1], one[0])))
            for line in story.lines:
                self.assertEqual(told[line], 1 + max([told[cause] for cause in causes(story, line)], default=0))

    def test_tops(self):
        self.assertEqual(tops(SOME), ("m:0.#8.0.#3",))
        self.assertEqual(tops(Story(EXAMPLE, [])), ())
        self.assertEqual(tops(Story(EXAMPLE, BOTH)), ("m:0.Cons.1.Nil",))
        part = Story(SOME.book, ["m:1.#4", "m:3.Node", "m:3.Node.1.Leaf", "m:3.Node.2.#3"])
        self.assertEqual(tops(part), ("m:1.#4", "m:3.Node.1.Leaf", "m:3.Node.2.#3"))
        for seed, book in some_books(range(15)):
            story = Story(book, some_run(book, seed, 25))
            found = [line for line in story.lines if not [one for one in story.lines if line in causes(story, one)]]
            self.assertEqual(tops(story), tuple(found))
            union = [one for line in tops(story) for one in past(story, line)]
            self.assertEqual(tuple(sorted(set(union))), story.lines)


class Chains(unittest.TestCase):
    def test_the_told_chain(self):
        self.assertEqual(chain(Story(EXAMPLE, BOTH)), BOTH)
        self.assertEqual(chain(Story(EXAMPLE, [])), ())
        self.assertEqual(len(chain(SOME)), 5)
        self.assertTrue(is_chain(SOME, chain(SOME)))
        for seed, book in some_books(range(20)):
            story = Story(book, some_run(book, seed, 40))
            row = chain(story)
            self.assertIs(row.__class__, tuple)
            self.assertEqual(row, chain(story))
            self.assertEqual(len(row), max([one[1] for one in heights(story)], default=0))
            self.assertTrue(is_chain(story, row))
            self.assertTrue(is_chain(story, list(row)))
            if row:
                self.assertEqual(causes(story, row[0]), ())
                for one, two in zip(row, row[1:]):
                    self.assertIn(one, causes(story, two))

    def test_other_chains(self):
        self.assertTrue(is_chain(SOME, []))
        self.assertTrue(is_chain(SOME, ()))
        self.assertTrue(is_chain(Story(EXAMPLE, []), []))
        for row in (["m:1.#4"], ["m:3.Node"], ["m:3.Node", "m:3.Node.2.#3", "m:3.Node.0.#0.0.#3", "m:0.#8.0.#3"],
                    ["m:1.#4", "m:0.#8"], ["m:3.Node", "m:0.#8.0.#3"]):
            self.assertTrue(is_chain(SOME, row))
        for row in (
            # Cut ahead, cut in the middle, turned round, doubled.
            ["m:0.#8"], ["m:1.#4.0.#2", "m:0.#8"], ["m:1.#4", "m:0.#8.0.#3"], ["m:0.#8", "m:1.#4"],
            ["m:1.#4", "m:1.#4"], ["m:1.#4", "m:1.#4.0.#2", "m:1.#4.0.#2"], ["m:3.Node", "m:1.#4.0.#2"],
            ["m:1.#4", "m:3.Node"],
            # Words that are no lines of the story.
            [""], ["m:1"], ["m:1.#4", "m:1.#4.0"], ["x", "m:1.#4"], ["m:1.#4", "m:1.#4.0.#3"], ["m:0.Cons"], ["m:1.#4", ""],
        ):
            self.assertFalse(is_chain(SOME, row), row)
        self.assertFalse(is_chain(Story(SOME.book, ["m:1.#4"]), ["m:1.#4", "m:0.#8"]))
        row = list(chain(REV))
        self.assertGreater(len(row), 4)
        self.assertTrue(is_chain(REV, row))
        self.assertFalse(is_chain(REV, row[1:]))
        self.assertFalse(is_chain(REV, list(reversed(row))))
        for k in range(1, len(row)):
            self.assertTrue(is_chain(REV, row[:k]))
            self.assertFalse(is_chain(REV, row[:k] + row[k - 1:]))


class LongRuns(unittest.TestCase):
    def test_two_thousand_lines(self):
        # A row of calls: each line is a cause of the next one.
        book = book_of("ever", "Yes")
        with self.assertRaises(TooMany):
            done_all(book, started(book), 10)
        first = "m:0.Yes"
        lines = [first + ".0.Yes" * k for k in range(2000)]
        story = Story(book, lines)
        self.assertEqual(len(story.lines), 2000)
        self.assertEqual(height(story, lines[-1]), 2000)
        self.assertEqual(chain(story), tuple(lines))
        self.assertEqual(past(story, lines[999]), tuple(lines[:1000]))
        self.assertEqual(tops(story), (lines[-1],))
        self.assertTrue(is_chain(story, lines))
        self.assertEqual(heights(story)[5], (lines[5], 6))


if __name__ == "__main__":
    unittest.main()
