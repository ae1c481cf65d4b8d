"""[41]: what always holds of nets."""

import unittest

from namedmeets.flatten import flattened
from namedmeets.holding import ends_of, kept
from namedmeets.nets import Book, Net, met, ready, started
from namedmeets.programs import Program
from namedmeets.settling import settled
from namedmeets.values import value_from
from tests.slownets import net_from, net_text, some_books, some_run
from tests.test_flatrun import FLAT, given
from tests.test_nets import MORE

BOOK = Book(MORE, "mixed", given(("No", "Nil", 6)))


class Ends(unittest.TestCase):
    def test_each_label(self):
        num, truth = (False, "Num"), (True, "Truth")
        for label, told in (
            (("maker", "Cons"), ((True, "List"), num, (False, "List"))), (("maker", "Nil"), ((True, "List"),)),
            (("maker", "Node"), ((True, "Tree"), (False, "Tree"), num, (False, "Tree"))),
            (("maker", "Yes"), ((True, "Truth"),)), (("number", -5), ((True, "Num"),)),
            (("work", "mixed"), ((False, "Truth"), (False, "List"), num, (True, "Num"))),
            (("work", "mixed/1"), ((False, "List"), num, (True, "Num"))), (("work", "tree"), ((False, "Tree"), (True, "Num"))),
            (("work", "list"), ((False, "Truth"), num, (True, "List"))),
            (("copy",), ((False, None), (True, None), (True, None))), (("leave",), ((False, None),)),
            (("step", "+"), (num, num, (True, "Num"))), (("step", "-"), (num, num, (True, "Num"))),
            (("step", "*"), (num, num, (True, "Num"))), (("step", "<"), (num, num, truth)), (("step", "="), (num, num, truth)),
            (("step", "+", 0), (num, (True, "Num"))), (("step", "-", 1), (num, (True, "Num"))),
            (("step", "*", -1), (num, (True, "Num"))), (("step", "<", 5), (num, truth)), (("step", "=", 5), (num, truth)),
        ):
            self.assertEqual(ends_of(BOOK, label), told)
            self.assertIs(ends_of(BOOK, label).__class__, tuple)


class Kept(unittest.TestCase):
    def check(self, word, text, book=BOOK):
        self.assertEqual(kept(book, net_from(text)), word)

    def changed(self, word, text, *changes, book=BOOK):
        """Checks a net in which texts are replaced."""
        self.assertIsNone(kept(book, net_from(text)))
        for one, two in changes:
            self.assertIn(one, text)
            text = text.replace(one, two)
        self.check(word, text, book)

    def test_nets_of_runs(self):
        nets = 0
        for seed, book in some_books(range(25)):
            for one in (book, Book(settled(book.flat), book.name, book.given)):
                net = started(one)
                for line in some_run(one, seed, 25):
                    self.assertIsNone(kept(one, net))
                    net = met(one, net, line)
                    nets += 1
                self.assertIsNone(kept(one, net))
        self.assertGreater(nets, 500)

    NUMBERS = "a number 1\nb number 2\nc step +\n\na 0 c 0\nb 0 c 1\nc 2 root 0\n"

    def test_ends(self):
        self.check("ends", "a number 1\n\n")
        self.check("ends", "a number 1\nb leave\n\na 0 b 0\n")
        self.check(None, "a number 1\n\na 0 root 0\n")
        for change in (
            # No tie, one too many, doubled ties, two ties for one end.
            ("a 0 c 0\n", ""), ("c 2 root 0\n", ""), ("b number 2", "b number 2\nd maker Nil"),
            ("a 0 c 0\n", "a 0 c 0\na 0 c 0\n"), ("a 0 c 0\n", "a 0 c 1\n"), ("a 0 c 0\n", "b 0 c 0\n"),
            ("a 0 c 0\n", "a 0 c 0\na 0 c 1\n"), ("c 2 root 0\n", "c 2 root 0\nb 0 root 0\n"),
            # Turned round.
            ("a 0 c 0", "c 0 a 0"), ("c 2 root 0", "root 0 c 2"), ("a 0 c 0\nb 0 c 1", "a 0 b 0\nc 0 c 1"),
            ("a 0 c 0\nb 0 c 1\nc 2 root 0", "a 0 c 2\nb 0 c 1\nc 0 root 0"),
            # Ends that are not there.
            ("a 0 c 0", "a 1 c 0"), ("a 0 c 0", "d 0 c 0"), ("b 0 c 1", "b 0 c 3"), ("b 0 c 1", "b 0 d 1"),
            ("c 2 root 0", "c 2 root 1"), ("c 2 root 0", "c 2 root 0\nc 3 root 1"), ("a 0 c 0", "a -1 c 0"),
            ("c 2 root 0", "c 2 root 0\nd 0 e 0"), ("a number 1\n", ""), ("c step +", "c step + 1"),
        ):
            self.changed("ends", self.NUMBERS, change)
        for cells in ("d leave\ne leave", "d number 1\ne number 2"):
            self.changed("ends", self.NUMBERS, ("c step +", f"c step +\n{cells}"), ("c 2 root 0", "c 2 root 0\nd 0 e 0"))

    def test_kinds(self):
        nil = "a maker Nil\n\na 0 root 0\n"
        lists = Book(FLAT, "append", given(("Nil", "Nil")))
        self.assertIsNone(kept(lists, net_from(nil)))
        self.check("kinds", nil)
        self.check("kinds", "a number 1\n\na 0 root 0\n", lists)
        self.check("kinds", "a maker Yes\n\na 0 root 0\n")
        self.changed("kinds", self.NUMBERS, ("step +", "step <"))
        self.changed("kinds", self.NUMBERS, ("number 1", "maker Yes"))
        self.changed("kinds", self.NUMBERS, ("number 2", "maker Nil"))
        self.changed(None, self.NUMBERS, ("number 2", "number -2"))
        step = "a number 1\nc step + -3\n\na 0 c 0\nc 1 root 0\n"
        self.changed("kinds", step, ("step +", "step ="))
        self.changed("kinds", step, ("number 1", "maker No"))
        work = "a maker Yes\nb maker Nil\nc number 5\nd work mixed\n\na 0 d 0\nb 0 d 1\nc 0 d 2\nd 3 root 0\n"
        self.changed("kinds", work, ("a 0 d 0\nb 0 d 1", "b 0 d 0\na 0 d 1"))
        self.changed("kinds", work, ("maker Nil", "number 4"))
        self.changed("kinds", work, ("c number 5", "c maker Yes"))
        self.changed("kinds", work, ("d 3 root 0", "d 3 f 0\ne 0 root 0"), ("d work", "e number 1\nf work list\nd work"),
                     ("c 0 d 2", "c 0 d 2\nf 2 g 0\nh 0 f 1"), ("d work", "g leave\nh number 2\nd work"))
        cons = "a number 1\nb maker Nil\nc maker Cons\nd leave\ne number 2\n\na 0 c 1\nb 0 c 2\nc 0 d 0\ne 0 root 0\n"
        self.changed("kinds", cons, ("a number 1", "a maker Nil"))
        self.changed("kinds", cons, ("b maker Nil", "b number 1"))
        self.changed(None, cons, ("b maker Nil", "b maker Cons\nb2 number 7\nb3 maker Nil"),
                     ("b 0 c 2", "b 0 c 2\nb2 0 b 1\nb3 0 b 2"))

    def test_copies_and_leaves_have_any_kind(self):
        for maker in ("maker Nil", "number 3", "maker Leaf", "maker No"):
            self.check(None, f"a {maker}\nb copy\nc leave\nd leave\ne number 1\n\na 0 b 0\nb 1 c 0\nb 2 d 0\ne 0 root 0\n")
        text = "a {}\nb copy\nc step +\n\na 0 b 0\nb 1 c 0\nb 2 c 1\nc 2 root 0\n"
        self.check(None, text.format("number 3"))
        self.check("kinds", text.format("maker No"))
        for one, two, word in (("number 3", "number 4", None), ("number 3", "maker Nil", "kinds")):
            self.check(word, f"a {one}\nb copy\nc leave\nd copy\ne {two}\nf leave\ng step +\n\n"
                       "a 0 b 0\nb 1 c 0\nb 2 g 0\nd 1 g 1\nd 2 f 0\ne 0 d 0\ng 2 root 0\n")

    def test_copies_of_copies(self):
        text = "a number 3\nb copy\nc copy\nd copy\ne step +\nf step +\ng step +\n\n" \
            "a 0 b 0\nb 1 c 0\nb 2 d 0\nc 1 e 0\nc 2 e 1\nd 1 f 0\nd 2 f 1\ne 2 g 0\nf 2 g 1\ng 2 root 0\n"
        self.changed("kinds", text, ("a number 3", "a maker Leaf"))
        # The far ends of a row of copies are of two kinds, whichever way one looks.
        text = "a {}\nb copy\nc copy\nd copy\nk1 leave\nk2 leave\nk3 leave\n\n" \
            "a 0 b 0\nb 1 k1 0\nb 2 c 0\nc 1 k2 0\nc 2 d 0\nd 1 k3 0\nd 2 root 0\n"
        self.check(None, text.format("number 3"))
        self.check("kinds", text.format("maker Nil"))
        work = "a {}\nb copy\nc copy\nd copy\nk1 leave\nk2 leave\nk3 leave\nw work tree\n\n" \
            "a 0 b 0\nb 1 k1 0\nb 2 c 0\nc 1 d 0\nc 2 k2 0\nd 1 k3 0\nd 2 w 0\nw 1 root 0\n"
        self.check(None, work.format("maker Leaf"))
        self.check("kinds", work.format("maker Nil"))
        self.check("kinds", work.format("number 1"))

    def test_copies_on_a_ring(self):
        # Nothing tells their kind from above; what they feed is of one kind, or of two.
        text = "a copy\nb copy\nc copy\nd copy\ne leave\nf leave\ng work tree\nh work {}\ni step +\n\n" \
            "a 1 b 0\nb 1 a 0\na 2 c 0\nb 2 d 0\nc 1 e 0\nd 1 f 0\nc 2 g 0\nd 2 h 0\ng 1 i 0\nh {} i 1\ni 2 root 0\n"
        self.check("ring", text.format("tree", 1))
        lists = text.replace("work {}", "work mixed/1").replace("h {}", "h 2").replace("i step", "j number 4\ni step")
        self.check("kinds", lists + "j 0 h 1\n")

    def test_rings(self):
        self.check(None, "a copy\nb step +\nc number 1\n\nc 0 a 0\na 1 b 0\na 2 b 1\nb 2 root 0\n")
        self.check("ring", "a copy\nb step +\nc number 1\n\nb 2 a 0\na 1 b 0\nc 0 b 1\na 2 root 0\n")
        # Cells that feed themselves.
        self.check("ring", "a copy\nb number 1\nc leave\n\na 1 a 0\na 2 c 0\nb 0 root 0\n")
        self.check("ring", "a maker Node\nb maker Leaf\nc number 1\nd number 1\n\na 0 a 1\nb 0 a 3\nc 0 a 2\nd 0 root 0\n")
        self.check("ring", "a step + 1\nb number 1\n\na 1 a 0\nb 0 root 0\n")
        # Two copies whose kinds nothing tells.
        self.check("ring", "a copy\nb copy\nc leave\nd leave\ne number 1\n\n"
                   "a 1 b 0\na 2 c 0\nb 1 a 0\nb 2 d 0\ne 0 root 0\n")
        self.check("ring", "a work mixed\nb maker Yes\nc maker Nil\nd copy\n\nb 0 a 0\nc 0 a 1\nd 1 a 2\na 3 d 0\nd 2 root 0\n")
        # A longer one, with what feeds it, and what it feeds.
        self.check("ring", "a step + 1\nb step + 2\nc step +\nd step + 3\ne copy\nf number 1\n\n"
                   "f 0 c 0\nd 1 c 1\nc 2 a 0\na 1 b 0\nb 1 e 0\ne 1 d 0\ne 2 root 0\n")

    def test_two_at_once_in_their_order(self):
        # A ring with wrong kinds, with and without a tie that is told twice.
        ring = "a copy\nb step <\nc number 1\n\nb 2 a 0\na 1 b 0\nc 0 b 1\na 2 root 0\n"
        self.check("kinds", ring)
        self.check("ends", ring + "c 0 b 1\n")
        self.check("ring", ring.replace("<", "-"))
        self.check("ends", ring.replace("<", "-") + "b 2 a 0\n")
        self.check("ends", self.NUMBERS.replace("number 1", "maker Nil") + "a 0 c 0\n")
        self.check("kinds", self.NUMBERS.replace("number 1", "maker Nil"))

    def test_nothing(self):
        self.assertEqual(kept(BOOK, Net([], [])), "ends")

    def test_each_tie_of_a_net_taken_away_or_doubled(self):
        book = Book(MORE, "copies", [value_from("Node Leaf 4 Leaf")])
        net = met(book, started(book), ready(started(book))[0])
        for k, tie in enumerate(net.ties):
            self.assertEqual(kept(book, Net(net.cells, net.ties[:k] + net.ties[k + 1:])), "ends")
            self.assertEqual(kept(book, Net(net.cells, net.ties + (tie,))), "ends")
            turned = net.ties[:k] + ((tie[1], tie[0]),) + net.ties[k + 1:]
            self.assertEqual(kept(book, Net(net.cells, turned)), "ends")
        for k in range(len(net.cells)):
            self.assertEqual(kept(book, Net(net.cells[:k] + net.cells[k + 1:], net.ties)), "ends")
        # Two ties whose giving ends are exchanged: kinds, if these are of two kinds.
        words = []
        for one in net.ties:
            for two in net.ties:
                if one < two:
                    rest = [tie for tie in net.ties if tie not in (one, two)]
                    words.append(kept(book, Net(net.cells, rest + [(one[0], two[1]), (two[0], one[1])])))
        self.assertEqual(sorted(set([str(word) for word in words])), ["None", "kinds", "ring"])
        self.assertIn("m:0.Node.0 0 m:2 1", net_text(net))

    def test_flat_functions_of_a_settled_program(self):
        flat = settled(flattened(Program("fun f Num = Num\nf n = + 1 (* 2 3)")))
        book = Book(flat, "f", [5])
        self.assertIsNone(kept(book, started(book)))
        self.assertEqual(net_text(started(book)), "a0 number 5\nm:0 leave\nm:1 number 7\n\na0 0 m:0 0\nm:1 0 root 0\n")


if __name__ == "__main__":
    unittest.main()
