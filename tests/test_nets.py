"""[32] to [40]: nets, the start, meetings, rows of work."""

import random
import unittest

from namedmeets.errors import BadNet, BadValue, NoName, TooMany
from namedmeets.flatrun import flat_plain
from namedmeets.flatten import flattened
from namedmeets.nets import (
    Book, Cell, Net, answer_of, born, done_all, met, net_of, ready, started,
)
from namedmeets.programs import Program
from namedmeets.settling import settled
from namedmeets.values import value_from, written_value
from tests.helpers import chain, raises
from tests.slownets import SlowNet, done_slowly, net_from, net_text, some_books, some_run, told
from tests.test_flatrun import FLAT, given

MORE = flattened(Program("""kind List = Nil | Cons Num List
kind Tree = Leaf | Node Tree Num Tree
kind Two = Two Tree Truth
fun tree Tree = Num
tree Leaf = 0
tree (Node l n r) = + (tree l) (+ n (tree r))
fun flip Two = Two
flip (Two t Yes) = Two t No
flip (Two t No) = Two t Yes
fun some Num = Num
some n = - (* n 2) (tree (Node Leaf 3 Leaf))
fun copies Tree = Two
copies t = Two (Node t 5 t) (= 1 2)
fun drop Tree List = List
drop t l = l
fun order Num Num Num = Num
order a b c = let s = + b c in let d = < a s in - (* s s) 1
fun mixed Truth List Num = Num
mixed Yes l n = n
mixed No Nil n = + n n
mixed No (Cons x t) n = mixed Yes t (- x n)
fun ever Truth = Num
ever Yes = ever Yes
ever No = 0
fun beside Truth = Num
beside t = let x = ever t in 8
fun grow Num = List
grow n = list (< n 0) n
fun list Truth Num = List
list Yes n = Nil
list No n = Cons n (list No (+ n 1))
"""))


def book_of(name, *values, flat=MORE):
    return Book(flat, name, given(values))


def run_of(book):
    return done_all(book, started(book), 2000)


class Classes(unittest.TestCase):
    def test_cells_and_nets(self):
        cell = Cell("b", ("copy",))
        self.assertEqual((cell.name, cell.label), ("b", ("copy",)))
        cells = [cell, Cell("a:10", ("number", 5)), Cell("a", ("leave",)), Cell("a:2", ("step", "+", -3))]
        ties = [(("b", 1), ("a", 0)), (("a:2", 1), ("root", 0)), (("a:10", 0), ("b", 0)), (("b", 1), ("a", 10)),
                (("b", 1), ("a", 9)), (("a", 7), ("a", 10))]
        net = Net(cells, ties)
        self.assertEqual([cell.name for cell in net.cells], ["a", "a:10", "a:2", "b"])
        self.assertIs(net.cells[3], cell)
        self.assertEqual(net.ties, ((("a", 7), ("a", 10)), (("a:10", 0), ("b", 0)), (("a:2", 1), ("root", 0)),
                                    (("b", 1), ("a", 0)), (("b", 1), ("a", 9)), (("b", 1), ("a", 10))))
        cells.append(cell)
        ties.append(ties[0])
        self.assertEqual((len(net.cells), len(net.ties)), (4, 6))
        self.assertIs(net.cells.__class__, tuple)

    def test_nets_that_are_equal(self):
        text = "a maker Nil\nb copy\nc leave\nd work f\ne number -5\n\na 0 b 0\nb 1 c 0\nb 2 root 0\n"
        net = net_from(text)
        self.assertTrue(net == net_from(text))
        self.assertFalse(net != net_from(text))
        self.assertTrue(Net(reversed(net.cells), list(reversed(net.ties))) == net)
        for one, two in (("a maker Nil", "a maker Cons"), ("b copy", "b leave"), ("e number -5", "e number 5"),
                         ("a maker", "b:1 maker"), ("d work f", "d work f/1"), ("b 2 root 0", "b 3 root 0"),
                         ("b 1 c 0\n", ""), ("c leave\n", ""), ("e number -5", "e number -5\nf leave"),
                         ("b 1 c 0", "c 0 b 1"), ("a 0 b 0", "a 0 d 0"), ("e number -5", "e maker -5")):
            self.assertFalse(net == net_from(text.replace(one, two)), two)
            self.assertTrue(net != net_from(text.replace(one, two)), two)
        for other in (None, 5, "net", (net.cells, net.ties), [net], Cell("a", ("copy",))):
            self.assertFalse(net == other)

    def test_books(self):
        values = [value_from("Nil"), value_from("Cons 1 Nil")]
        book = Book(FLAT, "append", values)
        self.assertIs(book.flat, FLAT)
        self.assertEqual(book.name, "append")
        values.append(5)
        self.assertEqual(book.given, (value_from("Nil"), value_from("Cons 1 Nil")))

    def test_errors_of_books(self):
        nil = value_from("Nil")
        for name in ("Cons", "nope", "", "pick/1", None, 5, ["five"], ("five",)):
            raises(self, NoName, {"name": name}, Book, FLAT, name, [True])
        for name, values in (("same", []), ("same", [True, 2]), ("five", (1,)), ("pick", [nil])):
            raises(self, BadValue, {"value": values, "why": "count"}, Book, FLAT, name, values)
        for name, values, wrong in (("same", [nil], nil), ("pick", [nil, 4], 4), ("pick", [5, 4], 5),
                                    ("same", [True], True), ("same", [None], None), ("len", ["Nil"], "Nil")):
            raises(self, BadValue, {"value": wrong, "why": "kind"}, Book, FLAT, name, values)


class Start(unittest.TestCase):
    maxDiff = None

    def check(self, book, text):
        net = started(book)
        self.assertIsInstance(net, Net)
        self.assertEqual(net_text(net), text)

    def test_the_example(self):
        self.check(book_of("append", "Cons 1 Nil", "Cons 2 Nil", flat=FLAT), """a0 maker Cons
a0:0 number 1
a0:1 maker Nil
a1 maker Cons
a1:0 number 2
a1:1 maker Nil
m:0 work append

a0 0 m:0 0
a0:0 0 a0 1
a0:1 0 a0 2
a1 0 m:0 1
a1:0 0 a1 1
a1:1 0 a1 2
m:0 2 root 0
""")

    def test_numbers_and_steps(self):
        self.check(book_of("some", -7), """a0 number -7
m:0 step -
m:1 step *
m:2 number 2
m:3 work tree
m:4 maker Node
m:5 maker Leaf
m:6 number 3
m:7 maker Leaf

a0 0 m:1 0
m:0 2 root 0
m:1 2 m:0 0
m:2 0 m:1 1
m:3 1 m:0 1
m:4 0 m:3 0
m:5 0 m:4 1
m:6 0 m:4 2
m:7 0 m:4 3
""")

    def test_copies_and_leaves(self):
        self.check(book_of("copies", "Leaf"), """a0 maker Leaf
m:0 copy
m:1 maker Two
m:2 maker Node
m:3 number 5
m:4 step =
m:5 number 1
m:6 number 2

a0 0 m:0 0
m:0 1 m:2 1
m:0 2 m:2 3
m:1 0 root 0
m:2 0 m:1 1
m:3 0 m:2 2
m:4 2 m:1 2
m:5 0 m:4 0
m:6 0 m:4 1
""")
        self.check(book_of("drop", "Leaf", "Nil"), "a0 maker Leaf\na1 maker Nil\nm:0 leave\n\na0 0 m:0 0\na1 0 root 0\n")
        # Cells are numbered as they stand in the text: copy (+ b c) to s r in copy r to t u in leave (< a s) in ..
        self.check(book_of("order", 1, 2, 3), """a0 number 1
a1 number 2
a2 number 3
m:0 copy
m:1 step +
m:2 copy
m:3 leave
m:4 step <
m:5 step -
m:6 step *
m:7 number 1

a0 0 m:4 0
a1 0 m:1 0
a2 0 m:1 1
m:0 1 m:4 1
m:0 2 m:2 0
m:1 2 m:0 0
m:2 1 m:6 0
m:2 2 m:6 1
m:4 2 m:3 0
m:5 2 root 0
m:6 2 m:5 0
m:7 0 m:5 1
""")

    def test_the_place_that_is_looked_at_stands_first(self):
        self.check(book_of("mixed", "No", "Nil", 6), """a0 maker No
a1 maker Nil
a2 number 6
m:0 work mixed

a0 0 m:0 0
a1 0 m:0 1
a2 0 m:0 2
m:0 3 root 0
""")

    def test_values_with_several_parts(self):
        self.check(book_of("flip", "Two (Node Leaf 4 (Node Leaf 5 Leaf)) Yes"), """a0 maker Two
a0:0 maker Node
a0:0:0 maker Leaf
a0:0:1 number 4
a0:0:2 maker Node
a0:0:2:0 maker Leaf
a0:0:2:1 number 5
a0:0:2:2 maker Leaf
a0:1 maker Yes
m:0 work flip

a0 0 m:0 0
a0:0 0 a0 1
a0:0:0 0 a0:0 1
a0:0:1 0 a0:0 2
a0:0:2 0 a0:0 3
a0:0:2:0 0 a0:0:2 1
a0:0:2:1 0 a0:0:2 2
a0:0:2:2 0 a0:0:2 3
a0:1 0 a0 2
m:0 1 root 0
""")

    def test_functions_without_a_test(self):
        self.check(book_of("five", flat=FLAT), "m:0 number 5\n\nm:0 0 root 0\n")
        self.check(book_of("same", -9, flat=FLAT), "a0 number -9\n\na0 0 root 0\n")
        self.check(book_of("both", "Nil", flat=FLAT), """a0 maker Nil
m:0 copy
m:1 maker Pair

a0 0 m:0 0
m:0 1 m:1 1
m:0 2 m:1 2
m:1 0 root 0
""")

    def test_deep_values(self):
        book = Book(FLAT, "len", [chain(2000, value_from("Nil"))])
        net = started(book)
        self.assertEqual(len(net.cells), 2 * 2000 + 1 + 1)
        self.assertIn(("a0" + ":1" * 2000, ("maker", "Nil")), [(cell.name, cell.label) for cell in net.cells])
        self.assertIn((("a0" + ":1" * 2000, 0), ("a0" + ":1" * 1999, 2)), net.ties)

    def test_more_than_ten_cells(self):
        text = "fun f Num = Num\nf n = " + "+ (+ 1 (+ 2 3)) (+ (+ 4 5) (+ 6 (+ 7 n)))"
        names = [cell.name for cell in started(book_of("f", 8, flat=flattened(Program(text)))).cells]
        self.assertEqual(names, sorted(["a0"] + [f"m:{k}" for k in range(14)]))


class Meetings(unittest.TestCase):
    """Each kind of meeting: ready, the net behind it, and what is born."""

    maxDiff = None

    def behind(self, book, *lines):
        """The net behind some lines, each of which must be ready when it is done."""
        net = started(book)
        for line in lines:
            self.assertIn(line, ready(net))
            ahead = told(net)
            new = met(book, net, line)
            self.assertEqual(told(net), ahead)
            net = new
        return net

    def check(self, net, lines, text):
        self.assertEqual(ready(net), lines)
        self.assertEqual(net_text(net), text)

    def test_work(self):
        book = book_of("append", "Cons 1 Nil", "Cons 2 Nil", flat=FLAT)
        self.assertEqual(ready(started(book)), ("m:0.Cons",))
        self.check(self.behind(book, "m:0.Cons"), ("m:0.Cons.1.Nil",), """a0:0 number 1
a0:1 maker Nil
a1 maker Cons
a1:0 number 2
a1:1 maker Nil
m:0.Cons.0 maker Cons
m:0.Cons.1 work append

a0:0 0 m:0.Cons.0 1
a0:1 0 m:0.Cons.1 0
a1 0 m:0.Cons.1 1
a1:0 0 a1 1
a1:1 0 a1 2
m:0.Cons.0 0 root 0
m:0.Cons.1 2 m:0.Cons.0 2
""")
        self.check(self.behind(book, "m:0.Cons", "m:0.Cons.1.Nil"), (), """a0:0 number 1
a1 maker Cons
a1:0 number 2
a1:1 maker Nil
m:0.Cons.0 maker Cons

a0:0 0 m:0.Cons.0 1
a1 0 m:0.Cons.0 2
a1:0 0 a1 1
a1:1 0 a1 2
m:0.Cons.0 0 root 0
""")

    def test_work_with_names_of_parts_and_other_places(self):
        book = book_of("mixed", "No", "Cons 4 Nil", 6)
        net = self.behind(book, "m:0.No", "m:0.No.0.Cons")
        self.assertEqual(ready(net), ("m:0.No.0.Cons.0.Yes", "m:0.No.0.Cons.2.#4"))
        self.assertEqual(net_text(net), """a1:0 number 4
a1:1 maker Nil
a2 number 6
m:0.No.0.Cons.0 work mixed
m:0.No.0.Cons.1 maker Yes
m:0.No.0.Cons.2 step -

a1:0 0 m:0.No.0.Cons.2 0
a1:1 0 m:0.No.0.Cons.0 1
a2 0 m:0.No.0.Cons.2 1
m:0.No.0.Cons.0 3 root 0
m:0.No.0.Cons.1 0 m:0.No.0.Cons.0 0
m:0.No.0.Cons.2 2 m:0.No.0.Cons.0 2
""")

    def test_copy_with_parts(self):
        book = book_of("copies", "Node Leaf 4 Leaf")
        self.assertEqual(ready(started(book)), ("m:0.Node", "m:4.#1"))
        self.check(self.behind(book, "m:0.Node"),
                   ("m:0.Node.2.Leaf", "m:0.Node.3.#4", "m:0.Node.4.Leaf", "m:4.#1"), """a0:0 maker Leaf
a0:1 number 4
a0:2 maker Leaf
m:0.Node.0 maker Node
m:0.Node.1 maker Node
m:0.Node.2 copy
m:0.Node.3 copy
m:0.Node.4 copy
m:1 maker Two
m:2 maker Node
m:3 number 5
m:4 step =
m:5 number 1
m:6 number 2

a0:0 0 m:0.Node.2 0
a0:1 0 m:0.Node.3 0
a0:2 0 m:0.Node.4 0
m:0.Node.0 0 m:2 1
m:0.Node.1 0 m:2 3
m:0.Node.2 1 m:0.Node.0 1
m:0.Node.2 2 m:0.Node.1 1
m:0.Node.3 1 m:0.Node.0 2
m:0.Node.3 2 m:0.Node.1 2
m:0.Node.4 1 m:0.Node.0 3
m:0.Node.4 2 m:0.Node.1 3
m:1 0 root 0
m:2 0 m:1 1
m:3 0 m:2 2
m:4 2 m:1 2
m:5 0 m:4 0
m:6 0 m:4 1
""")

    def test_copy_with_a_maker_of_no_parts_and_with_a_number(self):
        book = book_of("both", "Nil", flat=FLAT)
        self.check(self.behind(book, "m:0.Nil"), (), """m:0.Nil.0 maker Nil
m:0.Nil.1 maker Nil
m:1 maker Pair

m:0.Nil.0 0 m:1 1
m:0.Nil.1 0 m:1 2
m:1 0 root 0
""")
        book = book_of("dbl", -21, flat=FLAT)
        self.check(self.behind(book, "m:0.#-21"), ("m:1.#-21",), """m:0.#-21.0 number -21
m:0.#-21.1 number -21
m:1 step +

m:0.#-21.0 0 m:1 0
m:0.#-21.1 0 m:1 1
m:1 2 root 0
""")

    def test_leave(self):
        book = book_of("drop", "Node Leaf 4 (Node Leaf 5 Leaf)", "Nil")
        self.check(self.behind(book, "m:0.Node"), ("m:0.Node.0.Leaf", "m:0.Node.1.#4", "m:0.Node.2.Node"), """a0:0 maker Leaf
a0:1 number 4
a0:2 maker Node
a0:2:0 maker Leaf
a0:2:1 number 5
a0:2:2 maker Leaf
a1 maker Nil
m:0.Node.0 leave
m:0.Node.1 leave
m:0.Node.2 leave

a0:0 0 m:0.Node.0 0
a0:1 0 m:0.Node.1 0
a0:2 0 m:0.Node.2 0
a0:2:0 0 a0:2 1
a0:2:1 0 a0:2 2
a0:2:2 0 a0:2 3
a1 0 root 0
""")
        self.check(self.behind(book, "m:0.Node", "m:0.Node.0.Leaf", "m:0.Node.1.#4"), ("m:0.Node.2.Node",), """a0:2 maker Node
a0:2:0 maker Leaf
a0:2:1 number 5
a0:2:2 maker Leaf
a1 maker Nil
m:0.Node.2 leave

a0:2 0 m:0.Node.2 0
a0:2:0 0 a0:2 1
a0:2:1 0 a0:2 2
a0:2:2 0 a0:2 3
a1 0 root 0
""")

    def test_steps(self):
        for name, sign, one, two, label in (
            ("minus", "-", 5, 7, "number -2"), ("times", "*", -3, 4, "number -12"), ("less", "<", 1, 2, "maker Yes"),
            ("less", "<", 2, 2, "maker No"), ("like", "=", 2, 2, "maker Yes"), ("like", "=", 2, -2, "maker No"),
        ):
            book = book_of(name, one, two, flat=FLAT)
            self.assertEqual(net_text(started(book)), f"a0 number {one}\na1 number {two}\nm:0 step {sign}\n\n"
                             "a0 0 m:0 0\na1 0 m:0 1\nm:0 2 root 0\n")
            first = f"m:0.#{one}"
            self.check(self.behind(book, first), (f"{first}.0.#{two}",),
                       f"a1 number {two}\n{first}.0 step {sign} {one}\n\na1 0 {first}.0 0\n{first}.0 1 root 0\n")
            last = f"{first}.0.#{two}"
            self.check(self.behind(book, first, last), (), f"{last}.0 {label}\n\n{last}.0 0 root 0\n")

    def test_a_step_waits_for_its_first_number(self):
        book = book_of("some", 4)
        self.assertEqual(ready(started(book)), ("m:1.#4", "m:3.Node"))
        net = self.behind(book, "m:3.Node", "m:1.#4")
        self.assertEqual(ready(net), ("m:1.#4.0.#2", "m:3.Node.1.Leaf", "m:3.Node.2.#3", "m:3.Node.3.Leaf"))

    def test_places_that_go_from_tail_to_tail(self):
        # A row whose body is a name ties what two tails of the cells that go were tied to.
        book = book_of("id", "Cons 1 Nil", flat=flattened(Program(
            "kind List = Nil | Cons Num List\nfun id List = List\nid (Cons x t) = id2 t (Cons x Nil)\nid Nil = Nil\n"
            "fun id2 List List = List\nid2 Nil l = l\nid2 (Cons x t) l = t")))
        net = self.behind(book, "m:0.Cons", "m:0.Cons.0.Nil")
        self.assertEqual(net_text(net), "a0:0 number 1\nm:0.Cons.1 maker Cons\nm:0.Cons.2 maker Nil\n\n"
                         "a0:0 0 m:0.Cons.1 1\nm:0.Cons.1 0 root 0\nm:0.Cons.2 0 m:0.Cons.1 2\n")

    def test_ready_of_nets_that_callers_make(self):
        net = net_from("a copy\nb number -4\nc work f\nd step + 3\ne maker Nil\nf leave\ng maker Cons\nh step +\ni copy\n\n"
                       "b 0 a 0\ne 0 f 0\ng 0 root 0\nb 0 d 0\nb 0 c 1\nd 1 h 0\ng 1 i 0\nz 0 c 0\ne 0 z 0\ne 0 f 0\n")
        self.assertEqual(ready(net), ("a.#-4", "d.#-4", "f.Nil"))
        self.assertEqual(ready(Net([], [])), ())


class Born(unittest.TestCase):
    def check(self, book, worker, maker, cells, ties):
        made, tied = born(book, Cell(*worker), Cell(*maker))
        self.assertEqual([(cell.name, cell.label) for cell in made], cells)
        self.assertEqual(sorted(tied), sorted(ties))
        self.assertIs(made.__class__, tuple)
        self.assertIs(tied.__class__, tuple)
        self.assertTrue(all([isinstance(cell, Cell) for cell in made]))

    def test_each_kind_of_meeting(self):
        append = book_of("append", "Nil", "Nil", flat=FLAT)
        self.check(append, ("w", ("work", "append")), ("c", ("maker", "Nil")), [], [(("w", 1), ("w", 2))])
        self.check(append, ("w", ("work", "append")), ("c", ("maker", "Cons")),
                   [("w.Cons.0", ("maker", "Cons")), ("w.Cons.1", ("work", "append"))],
                   [(("w.Cons.0", 0), ("w", 2)), (("c", 1), ("w.Cons.0", 1)), (("w.Cons.1", 2), ("w.Cons.0", 2)),
                    (("c", 2), ("w.Cons.1", 0)), (("w", 1), ("w.Cons.1", 1))])
        self.check(append, ("k", ("copy",)), ("c", ("maker", "Cons")),
                   [("k.Cons.0", ("maker", "Cons")), ("k.Cons.1", ("maker", "Cons")), ("k.Cons.2", ("copy",)),
                    ("k.Cons.3", ("copy",))],
                   [(("k.Cons.0", 0), ("k", 1)), (("k.Cons.1", 0), ("k", 2)), (("c", 1), ("k.Cons.2", 0)),
                    (("c", 2), ("k.Cons.3", 0)), (("k.Cons.2", 1), ("k.Cons.0", 1)), (("k.Cons.2", 2), ("k.Cons.1", 1)),
                    (("k.Cons.3", 1), ("k.Cons.0", 2)), (("k.Cons.3", 2), ("k.Cons.1", 2))])
        self.check(append, ("k", ("copy",)), ("n", ("number", -3)),
                   [("k.#-3.0", ("number", -3)), ("k.#-3.1", ("number", -3))],
                   [(("k.#-3.0", 0), ("k", 1)), (("k.#-3.1", 0), ("k", 2))])
        self.check(append, ("k", ("copy",)), ("n", ("maker", "Nil")),
                   [("k.Nil.0", ("maker", "Nil")), ("k.Nil.1", ("maker", "Nil"))],
                   [(("k.Nil.0", 0), ("k", 1)), (("k.Nil.1", 0), ("k", 2))])
        self.check(append, ("v", ("leave",)), ("n", ("number", 0)), [], [])
        self.check(append, ("v", ("leave",)), ("n", ("maker", "No")), [], [])
        self.check(append, ("v", ("leave",)), ("c", ("maker", "Cons")), [("v.Cons.0", ("leave",)), ("v.Cons.1", ("leave",))],
                   [(("c", 1), ("v.Cons.0", 0)), (("c", 2), ("v.Cons.1", 0))])
        self.check(append, ("s", ("step", "*")), ("n", ("number", 7)), [("s.#7.0", ("step", "*", 7))],
                   [(("s", 1), ("s.#7.0", 0)), (("s.#7.0", 1), ("s", 2))])
        self.check(append, ("s", ("step", "*", 7)), ("n", ("number", -2)), [("s.#-2.0", ("number", -14))],
                   [(("s.#-2.0", 0), ("s", 1))])
        self.check(append, ("s", ("step", "<", 7)), ("n", ("number", 8)), [("s.#8.0", ("maker", "Yes"))],
                   [(("s.#8.0", 0), ("s", 1))])

    def test_names_of_each_row_stand_for_tails(self):
        self.check(book_of("mixed", "No", "Nil", 6), ("w", ("work", "mixed/1")), ("c", ("maker", "Cons")),
                   [("w.Cons.0", ("work", "mixed")), ("w.Cons.1", ("maker", "Yes")), ("w.Cons.2", ("step", "-"))],
                   [(("w.Cons.0", 3), ("w", 2)), (("w.Cons.1", 0), ("w.Cons.0", 0)), (("c", 2), ("w.Cons.0", 1)),
                    (("w.Cons.2", 2), ("w.Cons.0", 2)), (("c", 1), ("w.Cons.2", 0)), (("w", 1), ("w.Cons.2", 1))])

    def test_cells_that_cannot_meet(self):
        book = book_of("append", "Nil", "Nil", flat=FLAT)
        for worker, maker, line in (
            (("copy",), ("copy",), "one"), (("copy",), ("leave",), "one"), (("work", "append"), ("work", "len"), "one"),
            (("maker", "Nil"), ("step", "+"), "one"), (("number", 1), ("step", "+", 4), "one"),
            (("maker", "Nil"), ("maker", "Cons"), "one.Cons"), (("number", 2), ("maker", "Nil"), "one.Nil"),
            (("maker", "Cons"), ("number", -2), "one.#-2"), (("number", 5), ("number", 5), "one.#5"),
            (("step", "+"), ("maker", "Nil"), "one.Nil"), (("step", "-", 4), ("maker", "Yes"), "one.Yes"),
            (("work", "append"), ("number", 4), "one.#4"), (("work", "append"), ("maker", "Yes"), "one.Yes"),
            (("work", "append"), ("maker", "Pair"), "one.Pair"), (("work", "same"), ("maker", "Nil"), "one.Nil"),
            (("work", "append/1"), ("maker", "Cons"), "one.Cons"), (("work", "nope"), ("number", 4), "one.#4"),
        ):
            raises(self, BadNet, {"what": line}, born, book, Cell("one", worker), Cell("two", maker))


class Met(unittest.TestCase):
    def test_lines_that_are_not_possible(self):
        book = book_of("some", 4)
        net = started(book)
        behind = met(book, net, "m:1.#4")
        for line in ("m:1.#5", "m:1.Node", "m:1", "m:0.#4", "m:2.#4", "a0.#4", "", "m:1.#4.", "m:1.#4.0.#2", "m:3.Leaf",
                     "m:3.Node.1.Leaf", "root", None, 5, True, ["m:1.#4"], ("m:1.#4",), {"m:1.#4": 1}, net,
                     value_from("Nil")):
            with self.assertRaises(BadNet) as caught:
                met(book, net, line)
            self.assertIs(caught.exception.what, line)
        raises(self, BadNet, {"what": "m:1.#4"}, met, book, behind, "m:1.#4")

    def test_in_any_order(self):
        # Behind one of two meetings that are possible the other is; the nets behind both are the same.
        pairs = 0
        for seed, book in some_books(range(15)):
            net = net_of(book, some_run(book, seed, 6))
            lines = ready(net)
            for one in lines:
                for two in lines:
                    if one < two:
                        self.assertIn(two, ready(met(book, net, one)))
                        self.assertTrue(met(book, met(book, net, one), two) == met(book, met(book, net, two), one))
                        pairs += 1
        self.assertGreater(pairs, 100)

    def test_made_up_runs(self):
        # The same as a slow way, from meeting to meeting.
        steps = 0
        for seed, book in some_books(range(30)):
            slow, net = SlowNet(book), started(book)
            self.assertEqual(told(net), told(slow.net()))
            for line in some_run(book, seed, 40):
                self.assertEqual(ready(net), tuple(sorted(slow.meetings())))
                slow.meet(line)
                net = met(book, net, line)
                self.assertEqual(told(net), told(slow.net()))
                steps += 1
        self.assertGreater(steps, 500)


class NetOf(unittest.TestCase):
    def test_in_any_order_and_twice(self):
        for seed, book in some_books(range(15)):
            lines = some_run(book, seed, 30)
            slow = SlowNet(book)
            for line in lines:
                slow.meet(line)
            net = slow.net()
            rnd = random.Random(seed)
            for _ in range(3):
                mixed = lines + lines[:5]
                rnd.shuffle(mixed)
                self.assertEqual(told(net_of(book, mixed)), told(net))
            self.assertEqual(told(net_of(book, tuple(lines))), told(net))
        self.assertEqual(told(net_of(book, [])), told(started(book)))

    def test_the_first_line_that_cannot_be_done(self):
        book = book_of("rev", "Cons 1 (Cons 2 (Cons 3 Nil))", flat=FLAT)
        lines = done_all(book, started(book), 100)[1]
        self.assertEqual(lines[0], "m:0.Cons")
        for wrong in ("", "m:0", "m:0.Nil", "m:0.Cons.", "nope", "m:0.Cons.Cons", "m:0.Cons.0.Nil"):
            raises(self, BadNet, {"what": wrong}, net_of, book, [wrong])
            raises(self, BadNet, {"what": wrong}, net_of, book, [*lines, wrong, wrong, "zzz"])
            raises(self, BadNet, {"what": wrong}, net_of, book, [wrong, *lines, "zzz"])
        # Lines whose causes are lacking cannot be done; the first one is told, wherever it stands in the order of doing.
        rest = [line for line in reversed(lines) if line != "m:0.Cons"]
        raises(self, BadNet, {"what": rest[0]}, net_of, book, rest)
        raises(self, BadNet, {"what": rest[-1]}, net_of, book, [rest[-1], *rest])
        without = [line for line in lines if line != "m:0.Cons.0.Cons"]
        behind = [line for line in without if line.startswith("m:0.Cons.0.Cons.")]
        self.assertGreater(len(behind), 1)
        raises(self, BadNet, {"what": behind[0]}, net_of, book, without)
        last = [line for line in without if line not in done_slowly(book, without)][-1]
        raises(self, BadNet, {"what": last}, net_of, book, list(reversed(without)))


class DoneAll(unittest.TestCase):
    def test_as_many_and_one_less(self):
        for name, values, many in (("append", ("Cons 1 (Cons 2 Nil)", "Nil"), 3), ("five", (), 0), ("dbl", (21,), 3),
                                   ("rev", ("Cons 1 (Cons 2 (Cons 3 Nil))",), 10), ("left", ("Cons 1 Nil", "Nil"), 3)):
            book = book_of(name, *values, flat=FLAT)
            start = started(book)
            net, lines = done_all(book, start, many)
            self.assertEqual(len(lines), many)
            self.assertEqual(lines, tuple(sorted(lines)))
            self.assertEqual(ready(net), ())
            self.assertEqual(told(net), told(net_of(book, lines)))
            self.assertEqual(told(done_all(book, start, many + 5)[0]), told(net))
            for most in range(many):
                raises(self, TooMany, {"what": "meetings", "many": most, "limit": most}, done_all, book, start, most)
            self.assertEqual(told(start), told(started(book)))
            # From a net that is at its end nothing is done.
            again, none = done_all(book, net, 0)
            self.assertEqual((told(again), none), (told(net), ()))

    def test_from_the_middle(self):
        book = book_of("rev", "Cons 1 (Cons 2 (Cons 3 Nil))", flat=FLAT)
        net, lines = done_all(book, started(book), 100)
        some = some_run(book, 5, 4)
        behind, others = done_all(book, net_of(book, some), len(lines) - 4)
        self.assertEqual(told(behind), told(net))
        self.assertEqual(others, tuple([line for line in lines if line not in some]))
        raises(self, TooMany, {"what": "meetings", "many": 2, "limit": 2}, done_all, book, net_of(book, some), 2)

    def test_endless_runs(self):
        for name, value in (("ever", "Yes"), ("beside", "Yes"), ("grow", 0)):
            book = book_of(name, value)
            for most in (0, 1, 7, 300):
                raises(self, TooMany, {"what": "meetings", "many": most, "limit": most}, done_all, book, started(book), most)

    def test_made_up_runs_come_to_their_value(self):
        ended = 0
        for seed, book in some_books(range(40)):
            came = flat_plain(book.flat, book.name, book.given, 200)
            if came is None:
                raises(self, TooMany, {"what": "meetings", "many": 200, "limit": 200}, done_all, book, started(book), 200)
                continue
            net, lines = done_all(book, started(book), came.count)
            self.assertEqual(len(lines), came.count)
            self.assertTrue(answer_of(net) == came.value)
            # There are the makers of the value alone.
            self.assertTrue(all([cell.label[0] in ("maker", "number") for cell in net.cells]))
            end = Book(settled(book.flat), book.name, book.given)
            self.assertTrue(answer_of(run_of(end)[0]) == came.value)
            ended += 1
        self.assertGreater(ended, 60)


class Answers(unittest.TestCase):
    def test_in_the_middle_and_at_the_end(self):
        for name, values, text in (("rev", ("Cons 1 (Cons 2 Nil)",), "Cons 2 (Cons 1 Nil)"), ("less", (1, 2), "Yes"),
                                   ("dbl", (-4,), "-8"), ("both", ("Cons 7 Nil",), "Pair (Cons 7 Nil) (Cons 7 Nil)"),
                                   ("left", ("Cons 1 Nil", "Cons 2 Nil"), "Cons 2 Nil")):
            book = book_of(name, *values, flat=FLAT)
            net = started(book)
            while ready(net):
                self.assertIsNone(answer_of(net))
                net = met(book, net, ready(net)[-1])
            self.assertEqual(written_value(answer_of(net)), text)

    def test_at_once(self):
        self.assertEqual(answer_of(started(book_of("five", flat=FLAT))), 5)
        self.assertEqual(answer_of(started(book_of("same", 0, flat=FLAT))), 0)

    def test_workers_beside_the_value(self):
        # The whole value stands at the root, but something is left to do.
        book = book_of("beside", "Yes")
        self.assertIn((("m:2", 0), ("root", 0)), started(book).ties)
        self.assertIsNone(answer_of(started(book)))
        self.assertIsNone(answer_of(met(book, started(book), "m:1.Yes")))
        book = book_of("beside", "No")
        net, lines = run_of(book)
        self.assertEqual((answer_of(net), len(lines)), (8, 2))

    def test_deep_answers(self):
        value = chain(1900, value_from("Nil"))
        book = Book(FLAT, "append", [value_from("Nil"), value])
        net, lines = run_of(book)
        self.assertTrue(answer_of(net) == value)
        book = Book(FLAT, "append", [value, value_from("Nil")])
        net, lines = run_of(book)
        self.assertEqual(len(lines), 1901)
        self.assertTrue(answer_of(net) == value)


if __name__ == "__main__":
    unittest.main()
