"""[42], with [39] and [43]: what nets mean."""

import unittest

from namedmeets.flatrun import flat_plain
from namedmeets.flatten import flattened
from namedmeets.meaning import meant
from namedmeets.nets import Book, answer_of, done_all, met, net_of, ready, started
from namedmeets.plain import Came, plain
from namedmeets.programs import Program
from namedmeets.settling import settled
from namedmeets.values import value_from, written_value
from tests.helpers import chain
from tests.slownets import some_books, some_run
from tests.test_flatrun import FLAT
from tests.test_nets import book_of


class Meant(unittest.TestCase):
    def check(self, book, net, text, count):
        """Checks the value and the count, and that no less fuel is enough."""
        came = meant(book, net, count)
        self.assertIsInstance(came, Came)
        self.assertEqual((written_value(came.value), came.count), (text, count))
        came = meant(book, net, count + 100)
        self.assertEqual((written_value(came.value), came.count), (text, count))
        for fuel in range(count):
            self.assertIsNone(meant(book, net, fuel))

    def test_start_nets(self):
        for name, values, text, count in (
            ("append", ("Cons 1 (Cons 2 Nil)", "Cons 3 Nil"), "Cons 1 (Cons 2 (Cons 3 Nil))", 3),
            ("rev", ("Cons 1 (Cons 2 (Cons 3 Nil))",), "Cons 3 (Cons 2 (Cons 1 Nil))", 10),
            ("five", (), "5", 0), ("same", (-9,), "-9", 0), ("dbl", (21,), "42", 3), ("less", (1, 2), "Yes", 2),
            ("like", (-2, 2), "No", 2), ("minus", (5, 7), "-2", 2), ("times", (-3, 4), "-12", 2),
            ("both", ("Cons 1 (Cons 2 Nil)",), "Pair (Cons 1 (Cons 2 Nil)) (Cons 1 (Cons 2 Nil))", 5),
            ("left", ("Cons 1 (Cons 2 Nil)", "Nil"), "Nil", 5), ("pick", ("Cons 4 (Cons 5 Nil)", "Nil"), "2", 6),
            ("hidden", ("No",), "1", 2),
        ):
            book = book_of(name, *values, flat=FLAT)
            self.check(book, started(book), text, count)

    def test_each_worker(self):
        # What each state of a run counts, by hand: steps with and without their first numbers, copies, leaves, work.
        book = book_of("some", 4)
        net = started(book)
        for line, count in ((None, 11), ("m:1.#4", 10), ("m:1.#4.0.#2", 9), ("m:3.Node", 8), ("m:0.#8", 7),
                            ("m:3.Node.1.Leaf", 6), ("m:3.Node.3.Leaf", 5), ("m:3.Node.2.#3", 4),
                            ("m:3.Node.2.#3.0.#0", 3), ("m:3.Node.0.#0", 2), ("m:3.Node.0.#0.0.#3", 1),
                            ("m:0.#8.0.#3", 0)):
            net = net if line is None else met(book, net, line)
            self.check(book, net, "5", count)
        self.assertEqual(answer_of(net), 5)

    def test_at_each_state(self):
        states = 0
        for seed, book in some_books(range(40)):
            came = flat_plain(book.flat, book.name, book.given, 150)
            if came is None:
                continue
            net = started(book)
            for k, line in enumerate(some_run(book, seed, 150)):
                told = meant(book, net, came.count - k)
                self.assertTrue(told.value == came.value)
                self.assertEqual(told.count, came.count - k)
                self.assertIsNone(meant(book, net, came.count - k - 1))
                net = met(book, net, line)
                states += 1
            told = meant(book, net, 0)
            self.assertTrue(told.value == came.value)
            self.assertEqual(told.count, 0)
        self.assertGreater(states, 400)

    def test_all_ends_must_have_a_value(self):
        # The value stands at the root, but beside it something goes on for ever.
        book = book_of("beside", "Yes")
        net = started(book)
        for _ in range(4):
            for fuel in (0, 1, 1000):
                self.assertIsNone(meant(book, net, fuel))
            net = met(book, net, ready(net)[0])
        book = book_of("beside", "No")
        self.check(book, started(book), "8", 2)

    def test_endless_runs(self):
        for name, value in (("ever", "Yes"), ("grow", 0)):
            book = book_of(name, value)
            net = started(book)
            for _ in range(5):
                for fuel in (0, 1, 2, 1000):
                    self.assertIsNone(meant(book, net, fuel))
                net = met(book, net, ready(net)[0])

    def test_no_more_is_counted_than_fuel_lets(self):
        # Two parts that need all of the fuel each.
        text = "kind List = Nil | Cons Num List\nfun len List = Num\nlen Nil = 0\nlen (Cons x t) = + 1 (len t)\n" \
            "fun two List List = Num\ntwo a b = - (len a) (len b)\n"
        book = book_of("two", "Cons 1 Nil", "Cons 1 (Cons 2 Nil)", flat=flattened(Program(text)))
        self.check(book, started(book), "-1", (2 + 3) + (3 + 6) + 2)

    def test_runs_of_settled_programs(self):
        text = "kind List = Nil | Cons Num List\nfun len List = Num\nlen Nil = 0\nlen (Cons x t) = + 1 (len t)\n" \
            "fun f Num = Num\nf n = + n (len (Cons n (Cons n Nil)))\n"
        flat = flattened(Program(text))
        counts = []
        for _ in range(4):
            book = Book(flat, "f", [7])
            counts.append(meant(book, started(book), 100).count)
            self.check(book, started(book), "9", counts[-1])
            flat = settled(flat)
        self.assertEqual(counts[0], flat_plain(flattened(Program(text)), "f", [7], 100).count)
        self.assertEqual(sorted(counts, reverse=True), counts)
        self.assertLess(counts[3], counts[0])

    def test_long_runs(self):
        # Limits: runs of 2,000 meetings, values of 2,000 cells.
        value = chain(480, value_from("Nil"))
        book = Book(FLAT, "len", [value])
        net, lines = done_all(book, started(book), 2000)
        self.assertEqual((answer_of(net), len(lines)), (480, 1921))
        behind = meant(book, net, 0)
        self.assertEqual((behind.value, behind.count), (480, 0))
        part = meant(book, net_of(book, ["m:0" + ".Cons.3" * k + ".Cons" for k in range(300)]), 2000)
        self.assertEqual((part.value, part.count), (480, 1921 - 300))
        value = chain(990, value_from("Nil"))
        book = Book(FLAT, "left", [value, value])
        self.assertEqual(meant(book, started(book), 2000).count, 1981)
        self.assertTrue(meant(book, started(book), 2000).value == value)
        self.assertTrue(plain(FLAT.program, "left", [value, value], 1).value == value)


if __name__ == "__main__":
    unittest.main()
