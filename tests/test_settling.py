"""[29] and [30]: making steps ahead, and [21] for what comes of it. Names of places and Copies are free."""

import random
import unittest

from namedmeets.bodies import all_in
from namedmeets.flat import Copy, Flat, FlatFunction, FlatRow, Leave, Start, fault_of
from namedmeets.flatrun import flat_plain
from namedmeets.flatten import flattened
from namedmeets.programs import Program
from namedmeets.settling import settled
from namedmeets.trees import Applied, Number, Place
from namedmeets.values import value_from, written_value
from tests.helpers import (
    SlowRun, chain, flat_texts, slow_flat, slow_settled, some_program, some_value,
)

KINDS = """kind List = Nil | Cons Num List
kind Pair = Pair List List
kind Four = Four List List List List
fun append List List = List
append Nil y = y
append (Cons x t) y = Cons x (append t y)
fun len List = Num
len Nil = 0
len (Cons x t) = + 1 (len t)
fun not Truth = Truth
not Yes = No
not No = Yes
fun if Truth Num Num = Num
if Yes a b = a
if No a b = b
"""


class Rules(unittest.TestCase):
    maxDiff = None

    def check(self, text, *told):
        """Compares the rows and Starts that change, each time that a text is settled, with texts."""
        flat = flattened(Program(KINDS + text))
        for lines in told:
            ahead = flat_texts(flat)
            flat = settled(flat)
            self.assertIsNone(fault_of(flat))
            texts = [line for line in flat_texts(flat) if line not in ahead]
            self.assertEqual("\n".join(texts) + "\n", lines)

    def test_a_flat_function_with_a_maker(self):
        self.check("""fun a List = List
a l = append Nil l
fun b Num List = List
b n l = append (Cons n l) (Cons 7 l)
fun c Num = Num
c n = len Nil
fun d List = List
d l = append l Nil
""", """start a 1: a | a 0 | append 0
start b 2: copy b to c d in Cons a (append c (Cons 7 d)) | b 0 | append 1
start c 1: leave a in 0 | c 0 | len 0
""")

    def test_what_comes_in_has_no_turn_of_its_own(self):
        self.check("""fun three = Num
three = len (Cons 1 (Cons 2 (Cons 3 Nil)))
""", """start three 0: leave 1 in + 1 (len (Cons 2 (Cons 3 Nil))) | three 0 | len 1
""", """start three 0: + 1 (leave 2 in + 1 (len (Cons 3 Nil))) | three 0 | len 1 | len 1
""", """start three 0: + 1 (+ 1 (leave 3 in + 1 (len Nil))) | three 0 | len 1 | len 1 | len 1
""", """start three 0: 3 | three 0 | len 1 | len 1 | len 1 | len 0
""", "\n")

    def test_what_comes_in_counts_for_what_is_around(self):
        self.check("""fun a Num = Truth
a n = not (not (not (< n 1)))
fun b Truth = Truth
b t = not (not (not Yes))
fun c = List
c = append (append (Cons 1 Nil) Nil) (append Nil (Cons 2 Nil))
""", """start b 1: leave a in No | b 0 | not 0 | not 1 | not 0
start c 0: Cons 1 (append (append Nil Nil) (Cons 2 Nil)) | c 0 | append 1 | append 0 | append 1
""", """start c 0: Cons 1 (Cons 2 Nil) | c 0 | append 1 | append 0 | append 1 | append 0 | append 0
""")

    def test_signs_with_two_numbers(self):
        self.check("""fun plus = Num
plus = + 2 3
fun minus = Num
minus = - 2 3
fun times = Num
times = * -2 3
fun less = Truth
less = < 2 3
fun more = Truth
more = < 3 3
fun same = Truth
same = = 3 3
fun other = Truth
other = = 3 -3
fun one Num = Num
one n = + n (+ 1 1)
fun two Num = Num
two n = + 1 n
fun whole = Num
whole = * (+ 1 2) (- (* 2 2) 1)
""", """start plus 0: 5 | plus 0
start minus 0: -1 | minus 0
start times 0: -6 | times 0
start less 0: Yes | less 0
start more 0: No | more 0
start same 0: Yes | same 0
start other 0: No | other 0
start one 1: + a 2 | one 0
start whole 0: 9 | whole 0
""")

    def test_leave(self):
        self.check("""fun drop List = Num
drop l = 1
fun keep Four Num = Num
keep f n = n
fun a = Num
a = drop Nil
fun b Num = Num
b n = drop (Cons n Nil)
fun c = Num
c = let x = 5 in 6
fun d List = Num
d l = drop (append l l)
fun e List Num = Num
e l n = keep (Four l Nil (Cons n l) (append l l)) 3
""", """start a 0: 1 | a 0 | drop 0
start b 1: leave a in leave Nil in 1 | b 0 | drop 0
start c 0: 6 | c 0
start e 2: copy a to c d in copy d to e f in copy f to g h in leave c in leave Nil in leave Cons b e in \
leave append g h in 3 | e 0 | keep 0
""", """start b 1: leave a in 1 | b 0 | drop 0
start e 2: copy a to c d in copy d to e f in copy f to g h in leave c in leave b in leave e in \
leave append g h in 3 | e 0 | keep 0
""")

    def test_copy(self):
        self.check("""fun both List = Pair
both l = Pair l l
fun dbl Num = Num
dbl n = + n n
fun a = Pair
a = both Nil
fun b Num List = Pair
b n l = both (Cons n l)
fun c = Num
c = dbl 4
fun d List = Pair
d l = both (append l Nil)
fun e Num = Num
e n = let x = 3 in + n (* x x)
""", """start a 0: Pair Nil Nil | a 0 | both 0
start b 2: copy a to c d in copy b to e f in Pair (Cons c e) (Cons d f) | b 0 | both 0
start c 0: + 4 4 | c 0 | dbl 0
start e 1: + a (* 3 3) | e 0
""", """start c 0: 8 | c 0 | dbl 0
start e 1: + a 9 | e 0
""")

    def test_what_stands_in_a_copied_body_has_had_its_turn(self):
        self.check("""fun a = Num
a = let l = Cons 1 Nil in + (len l) (len l)
fun b = Num
b = let n = 2 in let m = n in + m (+ n n)
""", """start a 0: copy 1 to a b in copy Nil to c d in + (len (Cons a c)) (len (Cons b d)) | a 0
start b 0: copy 2 to a b in + 2 (+ a b) | b 0
""", """start a 0: + (leave 1 in + 1 (len Nil)) (leave 1 in + 1 (len Nil)) | a 0 | len 1 | len 1
start b 0: + 2 (+ 2 2) | b 0
""", """start a 0: 2 | a 0 | len 1 | len 1 | len 0 | len 0
start b 0: 6 | b 0
""")

    def test_rules_in_rows(self):
        self.check("""fun f List Num = Num
f Nil n = if (< 1 2) (+ 1 1) (len Nil)
f (Cons x t) n = f (Cons 1 Nil) (+ n (if No x 3))
""", """  Nil 1: leave a in leave 0 in 2 | f 0 | len 0 | if 0
  Cons 3: leave b in leave Nil in f (Cons 1 Nil) (+ (+ c (leave a in 3)) (if No 1 3)) | f 1 | if 1 | f 1
""")


class Callers(unittest.TestCase):
    def test_names_that_callers_give(self):
        # New names are unlike those that are there, whatever they are.
        program = Program("kind Box = Box Num Num\nfun f Box Num = Num\nf b n = n")
        x = Place
        names = [f"n.{k}" for k in range(8)]
        body = Copy(Applied("Box", (x("n.0"), Number(1))), names[2], names[3], Leave(x(names[2]), Leave(
            x(names[3]), Copy(Applied("No", ()), names[4], names[5], Leave(x(names[4]), Leave(x(names[5]), Number(4)))))))
        flat = Flat(program, (), (Start("f", ("n.1", "n.0"), Leave(x("n.1"), body), (("f", 0),)),))
        self.assertIsNone(fault_of(flat))
        new = settled(flat)
        self.assertIsNone(fault_of(new))
        self.assertEqual(flat_texts(new), [
            "start f 2: leave a in copy b to c d in copy 1 to e f in leave Box c e in leave Box d f in leave No in "
            "leave No in 4 | f 0"])
        self.assertEqual(flat_plain(new, "f", [value_from("Box 1 2"), 3], 100).count,
                         flat_plain(flat, "f", [value_from("Box 1 2"), 3], 100).count - 2)

    def test_what_was_passed_stays(self):
        flat = flattened(Program(KINDS + "fun three = Num\nthree = len (Cons 1 Nil)"))
        ahead = flat_texts(flat)
        new = settled(flat)
        self.assertEqual(flat_texts(flat), ahead)
        self.assertIsInstance(new, Flat)
        self.assertIs(new.program, flat.program)

    def test_nothing_to_settle(self):
        flat = flattened(Program("kind List = Nil"))
        new = settled(flat)
        self.assertEqual((new.functions, new.starts), ((), ()))

    def test_equal_calls_give_equal_names(self):
        for seed in range(10):
            flat = flattened(some_program(random.Random(seed), Program)[0])
            told = []
            for new in (settled(flat), settled(flat)):
                rows = [row for function in new.functions for row in function.rows] + list(new.starts)
                told.append([(row.names, [(one.one, one.two) for one in all_in(row.body) if isinstance(one, Copy)])
                             for row in rows])
            self.assertEqual(told[0], told[1])

    def test_bodies_nested_deep(self):
        text = "Nil"
        for _ in range(29):
            text = f"append (Cons 1 Nil) ({text})"
        flat = flattened(Program(KINDS + f"fun f = List\nf = {text}"))
        for _ in range(3):
            flat = settled(flat)
            self.assertIsNone(fault_of(flat))
        self.assertEqual(flat_plain(flat, "f", [], 1000).count, 0)
        self.assertEqual(written_value(flat_plain(flat, "f", [], 1000).value),
                         written_value(chain(29, value_from("Nil"))))


class MadeUp(unittest.TestCase):
    def test_the_same_as_a_slow_way(self):
        for seed in range(120):
            flat = flattened(some_program(random.Random(seed), Program)[0])
            for _ in range(2):
                new = settled(flat)
                slow = slow_settled(flat)[0]
                self.assertEqual(flat_texts(new), flat_texts(slow))
                self.assertIsNone(fault_of(new))
                flat = new

    def test_meaning_count_and_rows(self):
        came = saving = 0
        for seed in range(120):
            rnd = random.Random(seed)
            program, heads = some_program(rnd, Program)
            flat = flattened(program)
            new = settled(flat)
            third = settled(settled(new))
            saved = slow_settled(flat)[1]
            self.assertIsNone(fault_of(third))
            for name, places, _ in heads:
                for _ in range(3):
                    values = tuple([some_value(rnd, program, place, 3) for place in places])
                    slow = slow_flat(flat, name, values, 1000)
                    fast = flat_plain(new, name, values, 1000)
                    if slow is None:
                        # A settled run may come to its end within less fuel, but not one that never ends.
                        self.assertTrue(fast is None or slow_flat(flat, name, values, 100000) is not None)
                        continue
                    value, count, rows = slow
                    run = SlowRun(program, new, 1000)
                    self.assertTrue(run.start(name, values) == value)
                    self.assertEqual(sorted(run.rows), rows)
                    less = sum([saved[row] for row in run.entered])
                    self.assertTrue(fast.value == value)
                    self.assertEqual(fast.count, run.count)
                    self.assertEqual(fast.count + less, count)
                    again = slow_flat(third, name, values, 1000)
                    self.assertTrue(again[0] == value)
                    self.assertEqual(again[2], rows)
                    self.assertLessEqual(again[1], fast.count)
                    came += 1
                    saving += less > 0
        self.assertGreater(came, 500)
        self.assertGreater(saving, 200)


class Faults(unittest.TestCase):
    """[21] for settled flat programs in which one thing does not hold."""

    def flat(self, **more):
        """A settled flat program, with other flat functions or Starts if they are given."""
        text = KINDS + "fun f List Num = List\nf Nil n = append (Cons n Nil) Nil\nf (Cons x t) n = Cons n (append t t)\n" \
            "fun g Num = Num\ng n = len (Cons n (Cons n Nil))\n"
        flat = settled(flattened(Program(text)))
        functions = [more.get(one.name, one) for one in flat.functions]
        starts = [more.get("start_" + one.name, one) for one in flat.starts]
        return Flat(flat.program, functions, starts)

    def function(self, name, **more):
        one = [one for one in self.flat().functions if one.name == name][0]
        told = {"places": one.places, "result": one.result, "rows": one.rows}
        told.update(more)
        return FlatFunction(one.name, one.origin, told["places"], told["result"], told["rows"])

    def start(self, name, **more):
        one = [one for one in self.flat().starts if one.name == name][0]
        told = {"names": one.names, "body": one.body}
        told.update(more)
        return Start(one.name, told["names"], told["body"], one.rows)

    def test_nothing_is_wrong(self):
        self.assertIsNone(fault_of(self.flat()))

    def test_each_thing(self):
        f, append = self.function("f"), self.function("append")
        nil, cons = f.rows
        names, body = cons.names, cons.body
        loose = FlatRow("Cons", names, Leave(Place(names[0]), body), ())
        for name, wrong in (
            # (a)
            ("f", self.function("f", rows=(cons, nil))), ("f", self.function("f", rows=(nil,))),
            ("f", self.function("f", places=("Num", "Num"))), ("append", self.function("append", places=())),
            ("f", self.function("f", places=("Pair", "Num"))),
            # (b)
            ("f", self.function("f", rows=(nil, FlatRow("Cons", names[:2], body, ())))),
            ("f", self.function("f", rows=(nil, FlatRow("Cons", (names[0], names[0], names[2]), body, ())))),
            ("append", self.function("append", rows=(FlatRow("Nil", ("y", "z"), Place("y"), ()), append.rows[1]))),
            # (c)
            ("f", self.function("f", rows=(nil, loose))),
            ("f", self.function("f", rows=(nil, FlatRow("Cons", names, Applied("Nil", ()), ())))),
            ("append", self.function("append", rows=(FlatRow("Nil", ("y",), Place("z"), ()), append.rows[1]))),
            # (d)
            ("f", self.function("f", rows=(nil, FlatRow("Cons", names, Applied("Snoc", body.inner()), ())))),
            ("append", self.function("append", rows=(
                FlatRow("Nil", ("y",), Applied("Cons", (Place("y"),)), ()), append.rows[1]))),
            ("append", self.function("append", rows=(
                FlatRow("Nil", ("y",), Applied("Cons", (Place("y"), Applied("Nil", ()))), ()), append.rows[1]))),
            # (e)
            ("append", self.function("append", rows=(
                FlatRow("Nil", ("y",), Leave(Place("y"), Number(1)), ()), append.rows[1]))),
            ("append", self.function("append", result="Num")),
        ):
            self.assertEqual(fault_of(self.flat(**{name: wrong})), name)

    def test_starts(self):
        for name, wrong in (
            ("g", self.start("g", names=())), ("g", self.start("g", body=Number(3))),
            ("g", self.start("g", body=Leave(Place("n"), Place("n")))),
            ("g", self.start("g", body=Applied("len", (Place("n"),)))),
            ("g", self.start("g", body=Leave(Place("n"), Applied("Nil", ())))),
            ("g", self.start("g", body=Copy(Place("n"), "a", "a", Applied("+", (Place("a"), Place("a")))))),
            ("g", self.start("g", body=Copy(Place("n"), "a", "b", Applied("+", (Place("a"), Place("a")))))),
        ):
            self.assertEqual(fault_of(self.flat(**{"start_" + name: wrong})), name)


if __name__ == "__main__":
    unittest.main()
