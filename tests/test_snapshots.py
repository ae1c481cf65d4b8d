"""[58] and [59]: snapshots."""

import random
import unittest

from namedmeets.errors import BadNet, BadText
from namedmeets.nets import Net, done_all, net_of, started
from namedmeets.snapshots import (
    Snapshot, grown, is_true, is_within, lines_of, merged, shared, snapshot, snapshot_from, snapshot_text, standing,
)
from namedmeets.states import common, joined, whole_part
from namedmeets.values import value_from
from namedmeets.ways import Story
from tests.helpers import raises
from tests.slownets import net_from, some_books, some_run
from tests.test_causes import BOTH, EXAMPLE, SOME
from tests.test_flatrun import FLAT
from tests.test_nets import book_of
from tests.test_states import OTHERS, STRANGE

TEXT = """count 1
cell a0:0 number 1
cell a0:1 maker Nil
cell a1 maker Cons
cell a1:0 number 2
cell a1:1 maker Nil
cell m:0.Cons.0 maker Cons
cell m:0.Cons.1 work append
tie a0:0 0 m:0.Cons.0 1
tie a0:1 0 m:0.Cons.1 0
tie a1 0 m:0.Cons.1 1
tie a1:0 0 a1 1
tie a1:1 0 a1 2
tie m:0.Cons.0 0 root 0
tie m:0.Cons.1 2 m:0.Cons.0 2
"""


def some_states(seeds, most):
    """Books, each with two states as lists of lines in an order in which they can be done."""
    for seed, book in some_books(seeds):
        rnd = random.Random(seed)
        yield book, some_run(book, seed, rnd.randint(0, most)), some_run(book, seed + 1000, rnd.randint(0, most)), rnd


class Snapshots(unittest.TestCase):
    def test_attributes_and_equality(self):
        snap = snapshot(EXAMPLE, ["m:0.Cons", "m:0.Cons"])
        self.assertIsInstance(snap, Snapshot)
        self.assertEqual(snap.count, 1)
        self.assertTrue(snap.net == net_of(EXAMPLE, ["m:0.Cons"]))
        net = net_of(EXAMPLE, ["m:0.Cons"])
        self.assertIs(Snapshot(1, net).net, net)
        self.assertTrue(snap == Snapshot(1, net))
        self.assertFalse(snap != Snapshot(1, net))
        for other in (Snapshot(2, net), Snapshot(1, started(EXAMPLE)), snapshot(EXAMPLE, BOTH), None, 5, net, (1, net)):
            self.assertFalse(snap == other)
            self.assertTrue(snap != other)
        self.assertTrue(snapshot(EXAMPLE, []) == Snapshot(0, started(EXAMPLE)))
        self.assertTrue(snapshot(EXAMPLE, list(reversed(BOTH))) == Snapshot(2, net_of(EXAMPLE, BOTH)))

    def test_lists_that_are_no_states(self):
        for wrong, line in ((["x"], "x"), (["m:0.Cons.1.Nil"], "m:0.Cons.1.Nil"), (["m:0.Cons", "y", "x"], "y")):
            raises(self, BadNet, {"what": line}, snapshot, EXAMPLE, wrong)


class Standing(unittest.TestCase):
    def test_by_hand(self):
        net = net_of(EXAMPLE, ["m:0.Cons"])
        for name, word in (
            ("m:0.Cons.0", "here"), ("m:0.Cons.1", "here"), ("a1", "here"), ("a0:0", "here"), ("a0", "gone"), ("m:0", "gone"),
            ("m:0.Cons.1.Nil", "later"), ("m:0.Cons.1.Nil.0", "later"), ("m:0.Cons.1.Cons.1.Cons.1", "later"),
            ("m:0.Cons.1.", "later"), ("m:0.Cons.1..", "later"), ("m:0.Cons.10", "gone"), ("m:0.Cons.1x", "gone"),
            ("m:0.Cons.2", "gone"), ("m:0.Cons", "gone"), ("m:0.Nil.0", "gone"), ("m:0.Cons.2.Nil.0", "gone"),
            ("", "gone"), (".", "gone"), ("x", "gone"), ("a1.x", "later"), ("a1:0.#2.0", "later"), ("a0:0.", "later"),
            ("a0:00", "gone"), ("a", "gone"), (".a1", "gone"), ("a1:2", "gone"), ("a1 ", "gone"),
        ):
            self.assertEqual(standing(net, name), word, name)
        self.assertEqual(standing(Net([], []), "m:0"), "gone")

    def test_all_names(self):
        told = {"here": 0, "later": 0, "gone": 0}
        for book, one, two, _ in some_states(range(15), 25):
            story, other = Story(book, one), Story(book, two)
            standing_here = [cell.name for cell in story.net.cells]
            for name in sorted(set(story.all_names() + other.all_names())):
                if name not in story.all_names():
                    word = "later"
                else:
                    word = "here" if name in standing_here else "gone"
                self.assertEqual(standing(story.net, name), word)
                told[word] += 1
        self.assertTrue(all([many > 50 for many in told.values()]))


class IsTrue(unittest.TestCase):
    def test_true_ones(self):
        for book, one, two, _ in some_states(range(15), 25):
            for lines in (one, two, [], one[:len(one) // 2]):
                snap = snapshot(book, lines)
                self.assertIs(is_true(book, snap), True)
                self.assertEqual(lines_of(book, snap), tuple(sorted(lines)))
                self.assertIs(lines_of(book, snap).__class__, tuple)
                for count in (snap.count - 1, snap.count + 1, 0, 2000):
                    if 0 <= count != snap.count:
                        self.assertIs(is_true(book, Snapshot(count, snap.net)), False)

    def test_changed_nets(self):
        book = SOME.book
        lines = ["m:1.#4", "m:3.Node", "m:3.Node.1.Leaf"]
        snap = snapshot(book, lines)
        cells, ties = snap.net.cells, snap.net.ties
        self.assertTrue(is_true(book, Snapshot(3, Net(cells, ties))))
        for k in range(len(cells)):
            self.assertFalse(is_true(book, Snapshot(3, Net(cells[:k] + cells[k + 1:], ties))))
        for k, tie in enumerate(ties):
            self.assertFalse(is_true(book, Snapshot(3, Net(cells, ties[:k] + ties[k + 1:]))))
            self.assertFalse(is_true(book, Snapshot(3, Net(cells, ties + (tie,)))))
            other = ties[k - 1]
            rest = tuple([one for one in ties if one not in (tie, other)])
            self.assertFalse(is_true(book, Snapshot(3, Net(cells, rest + ((tie[0], other[1]), (other[0], tie[1]))))))
        for text in ("a number 1\n\na 0 root 0\n", "m:1 step *\n\n", "m:1.#4 leave\n\n"):
            for count in (0, 1, 5, 2000):
                self.assertFalse(is_true(book, Snapshot(count, net_from(text))))
                self.assertFalse(is_true(book, Snapshot(count, Net([], []))))

    def test_nets_of_no_state(self):
        # Two cells of one meeting cannot stand apart, and labels are those of the book.
        book = SOME.book
        start, behind = started(book), net_of(book, ["m:1.#4"])
        mixed = Net([cell for cell in start.cells if cell.name != "m:1"] + [
            cell for cell in behind.cells if cell.name == "m:1.#4.0"], behind.ties)
        self.assertFalse(is_true(book, Snapshot(1, mixed)))
        other = book_of("some", 5)
        self.assertFalse(is_true(other, snapshot(book, [])))
        self.assertFalse(is_true(other, snapshot(book, ["m:1.#4"])))
        # Behind m:1.#4 and m:3.Node nothing tells the number that n was.
        self.assertFalse(is_true(other, Snapshot(2, net_of(book, ["m:1.#4", "m:3.Node"]))))

    def test_endless_runs(self):
        book = book_of("ever", "Yes")
        first = "m:0.Yes"
        lines = [first + ".0.Yes" * k for k in range(300)]
        snap = snapshot(book, lines)
        self.assertTrue(is_true(book, snap))
        self.assertFalse(is_true(book, Snapshot(299, snap.net)))
        self.assertFalse(is_true(book, Snapshot(301, snap.net)))
        self.assertFalse(is_true(book, Snapshot(2000, Net([], []))))
        self.assertEqual(lines_of(book, snap), tuple(sorted(lines)))


class Sets(unittest.TestCase):
    def check(self, book, one, two, rnd):
        here, there = snapshot(book, one), snapshot(book, two)
        self.assertEqual(is_within(here, there), all([line in two for line in one]))
        self.assertEqual(is_within(there, here), all([line in one for line in two]))
        self.assertTrue(is_within(here, here))
        union, part = joined(book, one, two), common(book, one, two)
        for first, second in ((here, there), (there, here)):
            told = merged(book, first, second)
            self.assertTrue(told == snapshot(book, union))
            self.assertEqual(told.count, len(union))
            told = shared(book, first, second)
            self.assertTrue(told == snapshot(book, part))
            self.assertEqual(told.count, len(part))
        words = two + one[:3] + OTHERS + STRANGE
        rnd.shuffle(words)
        told = grown(book, here, words)
        self.assertTrue(told == snapshot(book, whole_part(book, one + words)))
        self.assertTrue(grown(book, here, two) == merged(book, here, there))
        some = [line for line in two if rnd.random() < 0.6]
        self.assertTrue(grown(book, here, some) == snapshot(book, whole_part(book, one + some)))
        self.assertTrue(grown(book, here, []) == here)
        self.assertTrue(grown(book, here, one) == here)

    def test_made_up_runs(self):
        for book, one, two, rnd in some_states(range(40), 25):
            self.check(book, one, two, rnd)

    def test_one_within_the_other(self):
        for book, one, _, rnd in some_states(range(15), 25):
            many = rnd.randint(0, len(one))
            self.check(book, one[:many], one, rnd)
            self.check(book, one, [], rnd)

    def test_what_was_passed_stays(self):
        book = SOME.book
        here, there = snapshot(book, ["m:1.#4"]), snapshot(book, ["m:3.Node"])
        ahead = snapshot_text(here), snapshot_text(there)
        merged(book, here, there)
        shared(book, here, there)
        grown(book, here, ["m:1.#4.0.#2"])
        self.assertEqual((snapshot_text(here), snapshot_text(there)), ahead)

    def test_long_runs(self):
        book = book_of("ever", "Yes")
        lines = ["m:0.Yes" + ".0.Yes" * k for k in range(1500)]
        snap, less = snapshot(book, lines), snapshot(book, lines[:700])
        self.assertEqual(len(lines_of(book, snap)), 1500)
        self.assertTrue(is_within(less, snap))
        self.assertFalse(is_within(snap, less))
        self.assertTrue(merged(book, less, snap) == snap)
        self.assertTrue(shared(book, less, snap) == less)
        self.assertEqual(standing(less.net, lines[-1]), "later")
        self.assertTrue(snapshot_from(book, snapshot_text(snap)) == snap)


class Texts(unittest.TestCase):
    def test_the_example(self):
        snap = snapshot(EXAMPLE, ["m:0.Cons"])
        self.assertEqual(snapshot_text(snap), TEXT)
        self.assertTrue(snapshot_from(EXAMPLE, TEXT) == snap)
        self.assertIsInstance(snapshot_from(EXAMPLE, TEXT), Snapshot)

    def test_each_label(self):
        book = book_of("some", 4)
        text = snapshot_text(snapshot(book, ["m:1.#4"]))
        for line in ("count 1\n", "cell m:1.#4.0 step * 4\n", "cell m:0 step -\n", "cell m:2 number 2\n", "cell m:3 work tree\n",
                     "cell m:4 maker Node\n", "tie m:0 2 root 0\n"):
            self.assertIn(line, text)
        text = snapshot_text(snapshot(book_of("drop", "Leaf", "Nil"), []))
        self.assertEqual(text, "count 0\ncell a0 maker Leaf\ncell a1 maker Nil\ncell m:0 leave\ntie a0 0 m:0 0\ntie a1 0 root 0\n")
        text = snapshot_text(snapshot(book_of("dbl", -21, flat=FLAT), []))
        self.assertEqual(text, "count 0\ncell a0 number -21\ncell m:0 copy\ncell m:1 step +\n"
                         "tie a0 0 m:0 0\ntie m:0 1 m:1 0\ntie m:0 2 m:1 1\ntie m:1 2 root 0\n")

    def test_made_up_runs(self):
        for book, one, two, _ in some_states(range(25), 30):
            for lines in (one, two, []):
                snap = snapshot(book, lines)
                told = snapshot_from(book, snapshot_text(snap))
                self.assertTrue(told == snap)
                self.assertEqual(snapshot_text(told), snapshot_text(snap))

    def test_values_that_are_no_strings(self):
        for text in (None, 5, True, b"count 0\n", [TEXT], (TEXT,), value_from("Nil"), snapshot(EXAMPLE, [])):
            raises(self, BadText, {"line": 0, "column": 0}, snapshot_from, EXAMPLE, text)

    def wrong(self, text, line, book=EXAMPLE):
        raises(self, BadText, {"line": line, "column": 1}, snapshot_from, book, text)

    def test_the_count(self):
        rest = TEXT[len("count 1\n"):]
        for line in ("", "count", "count ", "count 01", "count +1", "count -1", "count -0", "count 1 ", " count 1", "count  1",
                     "count 2001", "count 1 1", "Count 1", "count x", "count 1.0", "counts 1", "cell a1 leave", "1",
                     "count " + "9" * 1000, "count " + "1" * 1001, "count 1;"):
            self.wrong(line + "\n" + rest, 1)
            self.wrong(line + "\n", 1)
        for text in ("", "count 1", "\n", "\ncount 1\n", "x", TEXT.replace("\n", " ")):
            self.wrong(text, 1)
        for count in ("0", "2", "2000", "1999"):
            raises(self, BadNet, {"what": "state"}, snapshot_from, EXAMPLE, f"count {count}\n{rest}")
        raises(self, BadNet, {"what": "state"}, snapshot_from, EXAMPLE, "count 0\n")

    def test_lines_that_are_wrong(self):
        lines = TEXT.split("\n")[:-1]
        for k in range(1, len(lines)):
            for line in ("", " ", lines[k] + " ", " " + lines[k], lines[k].replace(" ", "  ", 1), lines[k] + " 0",
                         lines[k].rpartition(" ")[0], lines[k][1:], lines[k].upper(), "x", "count 1", lines[k] + ";", "tie", "cell",
                         lines[k].replace(" ", "\t")):
                self.wrong("\n".join(lines[:k] + [line] + lines[k + 1:]) + "\n", k + 1)
            # Put in, doubled.
            self.wrong("\n".join(lines[:k] + [""] + lines[k:]) + "\n", k + 1)
            self.wrong("\n".join(lines[:k] + [lines[k]] + lines[k:]) + "\n", k + 2)
            # Left out: still of the right form, but of no state.
            raises(self, BadNet, {"what": "state"}, snapshot_from, EXAMPLE, "\n".join(lines[:k] + lines[k + 1:]) + "\n")
            # Two exchanged; a tie line ahead of a cell line.
            if k + 1 < len(lines):
                self.wrong("\n".join(lines[:k] + [lines[k + 1], lines[k]] + lines[k + 2:]) + "\n", k + 2)
        self.wrong(TEXT + "\n", len(lines) + 1)
        self.wrong(TEXT + "count 1\n", len(lines) + 1)
        self.wrong("count 1\n" + TEXT, 2)

    def test_the_last_line_feed(self):
        lines = TEXT.split("\n")[:-1]
        self.wrong(TEXT[:-1], len(lines))
        self.wrong(TEXT + "x", len(lines) + 1)
        self.wrong(TEXT + " ", len(lines) + 1)
        self.wrong(TEXT + "tie m:1 0 m:2 0", len(lines) + 1)
        # An earlier line that is wrong is told first.
        self.wrong(TEXT.replace("tie a1 0", "tie a1 00") + "x", 11)
        self.wrong(TEXT.replace("tie a1 0", "tie a1 00")[:-1], 11)

    def test_labels(self):
        head = "count 0\ncell a "
        book = book_of("mixed", "No", "Nil", 6)
        for label in ("maker Nil", "maker Cons", "maker Yes", "maker No", "maker Two", "number 0", "number -7",
                      "number " + "9" * 1000, "number -" + "9" * 1000, "work mixed", "work mixed/1", "work tree", "copy", "leave",
                      "step +", "step -", "step *", "step <", "step =", "step + 0", "step < -5", "step = " + "1" * 1000):
            raises(self, BadNet, {"what": "state"}, snapshot_from, book, head + label + "\n")
        for label in ("", "maker", "maker ", "maker nil", "maker Nope", "maker tree", "maker Nil 1", "maker 5", "Maker Nil",
                      "number", "number ", "number x", "number 00", "number -0", "number +1", "number 1 2", "number 1.5",
                      "number " + "9" * 1001, "number -" + "9" * 1001, "number -", "number --1", "number 1_0", "work", "work nope",
                      "work Nil", "work some", "work mixed/2", "work mixed 1", "work ", "copy 1", "copy ", "leave 0", "leave ",
                      "step", "step ", "step /", "step ++", "step + x", "step + 00", "step + 1 2", "step + ", "step 1", "step - -0",
                      "step + " + "1" * 1001, "root", "#5", "Nil", "5"):
            self.wrong(head + label + "\n", 2, book)
        for name in ("a", "root", "%", "m:0.Cons.7", ";", "(x)", "Zz"):
            raises(self, BadNet, {"what": "state"}, snapshot_from, book, f"count 0\ncell {name} leave\n")
        self.wrong("count 0\ncell  leave\n", 2, book)
        self.wrong("count 0\ncell leave\n", 2, book)

    def test_ties(self):
        head = "count 0\ncell a0 leave\n"
        for tie in ("a 0 b 0", "x 5 root 9", "a " + "9" * 1000 + " b 0", "tie 0 tie 1", "; 0 ( 0"):
            raises(self, BadNet, {"what": "state"}, snapshot_from, EXAMPLE, f"{head}tie {tie}\n")
        for tie in ("", "a", "a 0", "a 0 b", "a 0 b 0 c", "a -1 b 0", "a 0 b -1", "a 00 b 0", "a 0 b 00", "a x b 0", "a 0 b x",
                    "a  b 0", " 0 b 0", "a 0  0", "a 0 b ", "a -0 b 0", "a +1 b 0", "a 1.0 b 0", "a " + "9" * 1001 + " b 0",
                    "a 0 b " + "9" * 1001):
            self.wrong(f"{head}tie {tie}\n", 3)
        # Ties are compared as pairs of ends, numbers as numbers.
        for one, two in (("a 2 b 0", "a 10 b 0"), ("a 0 b 9", "a 0 b 10"), ("a 10 b 0", "a:0 0 b 0"), ("Z 5 b 5", "a 0 b 0"),
                         ("a 0 b 5", "a 1 b 4")):
            raises(self, BadNet, {"what": "state"}, snapshot_from, EXAMPLE, f"{head}tie {one}\ntie {two}\n")
            self.wrong(f"{head}tie {two}\ntie {one}\n", 4)
            self.wrong(f"{head}tie {one}\ntie {one}\n", 4)
        # Cells are compared by their names as strings; no cell line stands behind a tie line.
        for one, two in (("a", "b"), ("a10", "a2"), ("Z", "a"), ("a", "a.0")):
            raises(self, BadNet, {"what": "state"}, snapshot_from, EXAMPLE, f"count 0\ncell {one} copy\ncell {two} leave\n")
            self.wrong(f"count 0\ncell {two} copy\ncell {one} leave\n", 3)
            self.wrong(f"count 0\ncell {one} copy\ncell {one} copy\n", 3)
            self.wrong(f"count 0\ncell {one} copy\ntie a 0 b 0\ncell {two} copy\n", 4)

    def test_ties_without_cells(self):
        raises(self, BadNet, {"what": "state"}, snapshot_from, EXAMPLE, "count 0\ntie a 0 b 0\n")
        self.wrong("count 0\ntie a 0 b 0\ncell a copy\n", 3)

    def test_large_numbers(self):
        for number in (10 ** 999, -10 ** 999):
            book = book_of("same", number, flat=FLAT)
            snap = snapshot(book, [])
            self.assertTrue(snapshot_from(book, snapshot_text(snap)) == snap)
        book = book_of("times", 10 ** 499, 10 ** 500, flat=FLAT)
        snap = snapshot(book, done_all(book, started(book), 2)[1])
        self.assertTrue(snapshot_from(book, snapshot_text(snap)) == snap)

    def test_other_states(self):
        # The right form, but the snapshot of another book, or of no state.
        other = book_of("append", "Cons 1 Nil", "Cons 3 Nil", flat=FLAT)
        raises(self, BadNet, {"what": "state"}, snapshot_from, other, TEXT)
        for one, two in (("number 1", "number 3"), ("a1 maker Cons", "a1 maker Pair"), ("count 1", "count 2"),
                         ("work append", "work len"), ("tie a1:1 0 a1 2", "tie a1:1 1 a1 2"), ("root 0", "root 1")):
            self.assertIn(one, TEXT)
            raises(self, BadNet, {"what": "state"}, snapshot_from, EXAMPLE, TEXT.replace(one, two))


if __name__ == "__main__":
    unittest.main()
