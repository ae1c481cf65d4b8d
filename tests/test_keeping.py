"""[70] and [71]: what outlives falls."""

import random
import unittest
from itertools import combinations

from namedmeets.errors import BadNumber
from namedmeets.halls import Hall, hall_of
from namedmeets.keeping import copies, outlives
from namedmeets.logs import held, lines_in
from tests.helpers import raises
from tests.slowhalls import some_weaving
from tests.slownets import some_books, some_run
from tests.test_causes import BOTH, EXAMPLE, SOME
from tests.test_nets import book_of
from tests.test_states import STRANGE

BOOK = SOME.book


def outlives_slowly(hall, many):
    """What is held whichever machines are left out, by trying all of them."""
    names = hall.machine_names()
    if many >= len(names):
        return ()
    states = []
    for out in combinations(names, many):
        states.append(set(held(hall.book, [hall.log_by(name) for name in names if name not in out])))
    return tuple(sorted(set.intersection(*states)))


class Outlives(unittest.TestCase):
    def test_by_hand(self):
        hall = hall_of(BOOK, "begin a\nbegin b\nbegin c\nwork a 2 least\nsend a all\nhand 0 b\nwork b 1 greatest\nhand 0 c\nfall c 12")
        self.assertEqual(hall.log_by("c"), "m:1.#4\n")
        for many, told in ((0, ("m:1.#4", "m:1.#4.0.#2", "m:3.Node")), (1, ("m:1.#4", "m:1.#4.0.#2")),
                (2, ("m:1.#4",)), (3, ()),
                           (4, ()), (10 ** 30, ())):
            self.assertEqual(outlives(hall, many), told)
            self.assertIs(outlives(hall, many).__class__, tuple)
        for many in range(3):
            self.assertEqual(outlives(Hall(BOOK), many), ())
        self.assertEqual(outlives(hall_of(BOOK, "begin a\nwork a 9 least"), 1), ())

    def test_each_line_that_comes_ahead_counts(self):
        one, two = BOTH
        # The second line is in two logs, the first one in one.
        hall = hall_of(EXAMPLE, f"begin a\nbegin b\nnote {one} {two}\nnote {two}\nhand 0 a\nhand 1 b")
        self.assertEqual((outlives(hall, 0), outlives(hall, 1)), (BOTH, ()))
        # They need not be the same logs.
        hall = hall_of(EXAMPLE, f"begin a\nbegin b\nbegin c\nnote {one} {two}\nnote {two}\nnote {one}\nhand 0 a\nhand 1 b\nhand 2 c")
        self.assertEqual([outlives(hall, k) for k in range(4)], [BOTH, BOTH, (), ()])
        # Lines that nobody can do are not held.
        hall = hall_of(EXAMPLE, "begin a\nbegin b\nnote m:0.Nil m:9.A\nhand 0 a\nhand 0 b")
        self.assertEqual(outlives(hall, 0), ())

    def test_machines_that_are_down(self):
        hall = hall_of(BOOK, "begin a\nbegin b\nwork a 3 least\nsend a all\nhand 0 b\nfall a 0\nfall b 1")
        self.assertEqual(outlives(hall, 1), ("m:1.#4", "m:1.#4.0.#2"))
        self.assertEqual(outlives(hall, 0), ("m:0.#8", "m:1.#4", "m:1.#4.0.#2"))
        # A log that is torn counts as it is, and as a whole line once its machine has come back.
        hall.do("rise b")
        self.assertEqual(outlives(hall, 1), ("m:0.#8", "m:1.#4", "m:1.#4.0.#2"))

    def test_made_up_weavings(self):
        some = [0, 0, 0, 0, 0]
        for seed, book in some_books(range(20)):
            rnd = random.Random(seed)
            lines = some_run(book, seed, 12)
            hall = hall_of(book, "\n".join(some_weaving(rnd, rnd.randint(2, 4), lines, 30)))
            logs = [lines_in(hall.log_by(name)) for name in hall.machine_names()]
            for many in range(6):
                told = outlives(hall, many)
                self.assertEqual(told, outlives_slowly(hall, many))
                for line in told:
                    self.assertGreater(copies(hall, line), many)
                if many < 5:
                    some[many] += len(told)
            for line in lines + ["m:0.Nope", "word", ""]:
                self.assertEqual(copies(hall, line), len([1 for log in logs if line in log]))
        self.assertTrue(all([many > 5 for many in some[:3]]), some)

    def test_errors(self):
        for many in (-1, -10, True, False, None, "1", 1.0, [1], (0,), EXAMPLE):
            for hall in (Hall(EXAMPLE), hall_of(EXAMPLE, "begin a")):
                raises(self, BadNumber, {"what": "many", "number": many}, outlives, hall, many)


class Copies(unittest.TestCase):
    def test_by_hand(self):
        hall = hall_of(BOOK, "begin a\nbegin b\nbegin c\nwork a 2 least\nsend a all\nhand 0 b\nnote m:9.A word m:9.A\nhand 1 c\nhand 1 a\nfall b 1")
        for line, many in (("m:1.#4", 2), ("m:1.#4.0.#2", 1), ("m:9.A", 2), ("m:3.Node", 0), ("word", 0), ("", 0),
                ("m:1", 0)):
            self.assertEqual(copies(hall, line), many)
        for word in STRANGE:
            self.assertEqual(copies(hall, word), 0)
        self.assertEqual(copies(Hall(BOOK), "m:1.#4"), 0)

    def test_twice_in_one_log(self):
        # The torn end of a log is written once more.
        hall = hall_of(BOOK, "begin a\nwork a 2 least\nfall a 1\nrise a\nfall a 3\nrise a\nfall a 0")
        self.assertEqual(copies(hall, "m:1.#4"), 1)
        hall = hall_of(EXAMPLE, "begin a\nnote m:0.Cons\nhand 0 a\nfall a 1\nrise a\nhand 0 a")
        self.assertEqual(hall.log_by("a"), "m:0.Cons\n")
        self.assertEqual(copies(hall, "m:0.Cons"), 1)


class Limits(unittest.TestCase):
    def test_eight_machines_and_four_hundred_lines(self):
        names = "abcdefgh"
        deeds = [f"begin {name}" for name in names] + ["work a 400 least", "send a all"]
        deeds += [f"hand 0 {name}" for name in names] + ["fall h 5", "rise h", "clean h", "fall g 1", "seek 0 h 400"]
        hall = hall_of(book_of("ever", "Yes"), "\n".join(deeds))
        self.assertEqual(len(outlives(hall, 6)), 400)
        self.assertEqual(len(outlives(hall, 7)), 399)
        self.assertEqual(len(outlives(hall, 5)), 400)
        self.assertEqual(hall.double_work(), 1)
        self.assertEqual(len(hall.state_by("h")), 400)


if __name__ == "__main__":
    unittest.main()
