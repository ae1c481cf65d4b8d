"""[22] to [26]: leading programs to flat ones. The names of places and of Copies are free, so they are not compared."""

import random
import unittest

from namedmeets.bodies import all_in
from namedmeets.flat import Copy, fault_of
from namedmeets.flatten import flattened
from namedmeets.programs import Program
from tests.helpers import flat_texts, some_program

KINDS = """kind List = Nil | Cons Num List
kind Pair = Pair List List
kind Four = Four List List List List
"""


class Flattened(unittest.TestCase):
    maxDiff = None

    def check(self, text, told):
        """Compares all of a flat program with a text, a line for each flat function, FlatRow and Start."""
        flat = flattened(Program(KINDS + text))
        self.assertEqual("\n".join(flat_texts(flat)) + "\n", told)
        self.assertIsNone(fault_of(flat))

    def test_one_place_is_looked_at(self):
        self.check("""fun append List List = List
append Nil y = y
append (Cons x t) y = Cons x (append t y)
""", """append of append: List List = List
  Nil 1: a | append 0
  Cons 3: Cons a (append b c) | append 1
start append 2: append a b
""")

    def test_rows_one_above_the_other(self):
        self.check("""fun pick List List = Num
pick Nil x = 1
pick x Nil = 2
pick (Cons a t) (Cons b u) = + a (* 10 b)
""", """pick of pick: List List = Num
  Nil 1: leave a in 1 | pick 0
  Cons 3: pick/1 c a b
pick/1 of pick: List Num List = Num
  Nil 2: leave a in leave b in 2 | pick 1
  Cons 4: leave b in leave d in + c (* 10 a) | pick 2
start pick 2: pick a b
""")

    def test_nested_shapes_and_names_of_what_was_looked_at(self):
        self.check("""fun f List Truth = Pair
f Nil b = Pair Nil Nil
f (Cons x Nil) Yes = Pair Nil (Cons x Nil)
f l b = Pair l l
""", """f of f: List Truth = Pair
  Nil 1: leave a in Pair Nil Nil | f 0
  Cons 3: f/1 b a c
f/1 of f: List Num Truth = Pair
  Nil 2: f/2 b a
  Cons 4: leave d in copy Cons c (Cons a b) to e f in Pair e f | f 2
f/2 of f: Truth Num = Pair
  Yes 1: Pair Nil (Cons a Nil) | f 1
  No 1: copy Cons a Nil to b c in Pair b c | f 2
start f 2: f a b
""")

    def test_names_in_the_order_in_which_they_were_looked_at(self):
        self.check("""fun two List List = Four
two Nil Nil = Four Nil Nil Nil Nil
two x y = Four y x x y
""", """two of two: List List = Four
  Nil 1: two/1 a
  Cons 3: copy c to d e in copy Cons a b to f g in Four d f g e | two 1
two/1 of two: List = Four
  Nil 0: Four Nil Nil Nil Nil | two 0
  Cons 2: copy Cons a b to c d in copy Nil to e f in Four c e f d | two 1
start two 2: two a b
""")

    def test_a_name_of_what_was_looked_at_that_stands_once_or_never(self):
        self.check("""fun id List = List
id Nil = Nil
id l = l
fun no List = Num
no (Cons a (Cons b t)) = b
no l = 0
""", """id of id: List = List
  Nil 0: Nil | id 0
  Cons 2: Cons a b | id 1
no of no: List = Num
  Nil 0: 0 | no 1
  Cons 2: no/1 b a
no/1 of no: List Num = Num
  Nil 1: leave a in 0 | no 1
  Cons 3: leave b in leave c in a | no 0
start id 1: id a
start no 1: no a
""")

    def test_the_flat_functions_of_a_function_in_their_order(self):
        self.check("""fun g Truth Truth Truth = Num
g Yes Yes x = 1
g No x Yes = 2
g x y z = 3
fun k Truth Truth Truth = Num
k Yes Yes Yes = 1
k No No No = 2
k x y z = 3
""", """g of g: Truth Truth Truth = Num
  Yes 2: g/1 a b
  No 2: g/2 b a
g/1 of g: Truth Truth = Num
  Yes 1: leave a in 1 | g 0
  No 1: leave a in 3 | g 2
g/2 of g: Truth Truth = Num
  Yes 1: leave a in 2 | g 1
  No 1: leave a in 3 | g 2
k of k: Truth Truth Truth = Num
  Yes 2: k/1 a b
  No 2: k/3 a b
k/1 of k: Truth Truth = Num
  Yes 1: k/2 a
  No 1: leave a in 3 | k 2
k/2 of k: Truth = Num
  Yes 0: 1 | k 0
  No 0: 3 | k 2
k/3 of k: Truth Truth = Num
  Yes 1: leave a in 3 | k 2
  No 1: k/4 a
k/4 of k: Truth = Num
  Yes 0: 3 | k 2
  No 0: 2 | k 1
start g 3: g a b c
start k 3: k a b c
""")

    def test_the_first_row_tells_the_place(self):
        self.check("""fun h Num Truth List = Num
h n Yes Nil = n
h n No l = + n n
h n b l = 7
fun use Num = Num
use n = h (+ n 1) (< n 2) (Cons n Nil)
""", """h of h: Truth Num List = Num
  Yes 2: h/1 b a
  No 2: copy a to c d in leave b in + c d | h 1
h/1 of h: List Num = Num
  Nil 1: a | h 0
  Cons 3: leave a in leave b in leave c in 7 | h 2
start h 3: h b a c
start use 1: copy a to b c in copy c to d e in h (< b 2) (+ d 1) (Cons e Nil) | use 0
""")

    def test_names_used_never_once_and_more_often(self):
        self.check("""fun once Num Num = Num
once a b = - b a
fun never Num Num Num = Num
never a b c = b
fun none Num Num = Num
none a b = 1
fun twice Num = Num
twice n = + n n
fun thrice Num = Num
thrice n = + n (+ n n)
fun four Num = Num
four n = + (+ n n) (+ n n)
fun both Num Num = Num
both a b = + (+ a b) (+ a b)
fun mixed Num Num Num = Num
mixed a b c = + c (+ a c)
""", """start once 2: - b a | once 0
start never 3: leave a in leave c in b | never 0
start none 2: leave a in leave b in 1 | none 0
start twice 1: copy a to b c in + b c | twice 0
start thrice 1: copy a to b c in copy c to d e in + b (+ d e) | thrice 0
start four 1: copy a to b c in copy c to d e in copy e to f g in + (+ b d) (+ f g) | four 0
start both 2: copy a to c d in copy b to e f in + (+ c e) (+ d f) | both 0
start mixed 3: leave b in copy c to d e in + d (+ a e) | mixed 0
""")

    def test_lets(self):
        self.check("""fun a1 Num = Num
a1 n = let k = + n 1 in * k k
fun a2 Num = Num
a2 n = let k = n in 5
fun a3 Num = Num
a3 n = let k = + n 1 in n
fun a4 Num = Num
a4 n = + (let k = n in + k k) 1
fun a5 Num = Num
a5 n = let a = let b = n in + b b in + a a
fun a6 Num = Num
a6 n = let a = + n 1 in let b = + a 2 in * b (* b a)
fun a7 Num = Num
a7 n = let a = n in a
fun a8 Num Num = Num
a8 n m = let a = + n m in let b = 3 in + (* a a) (+ n a)
""", """start a1 1: copy + a 1 to b c in * b c | a1 0
start a2 1: leave a in 5 | a2 0
start a3 1: copy a to b c in leave + b 1 in c | a3 0
start a4 1: + (copy a to b c in + b c) 1 | a4 0
start a5 1: copy copy a to b c in + b c to d e in + d e | a5 0
start a6 1: copy + a 1 to b c in copy + b 2 to d e in * d (* e c) | a6 0
start a7 1: a | a7 0
start a8 2: copy a to c d in copy + c b to e f in copy f to g h in leave 3 in + (* e g) (+ d h) | a8 0
""")

    def test_calls_of_functions_without_a_test(self):
        self.check("""fun oct Num = Num
oct x = quad (dbl x)
fun quad Num = Num
quad x = dbl (dbl x)
fun dbl Num = Num
dbl x = + x x
fun sub Num Num = Num
sub a b = - a b
fun swap Num Num = Num
swap a b = sub b a
fun drop Num Num = Num
drop a b = a
fun use Num = Num
use n = drop n (+ n 1)
fun five = Num
five = 5
fun ten = Num
ten = + five (* five 1)
fun rows Num = Num
rows n = + (sub n (dbl n)) (let k = dbl 1 in drop k n)
""", """start oct 1: copy copy copy a to b c in + b c to d e in + d e to f g in + f g | oct 0 | quad 0 | dbl 0 | dbl 0 | dbl 0
start quad 1: copy copy a to b c in + b c to d e in + d e | quad 0 | dbl 0 | dbl 0
start dbl 1: copy a to b c in + b c | dbl 0
start sub 2: - a b | sub 0
start swap 2: - b a | swap 0 | sub 0
start drop 2: leave b in a | drop 0
start use 1: copy a to b c in leave + b 1 in c | use 0 | drop 0
start five 0: 5 | five 0
start ten 0: + 5 (* 5 1) | ten 0 | five 0 | five 0
start rows 1: """ + (
            "copy a to b c in copy c to d e in + (- b (copy d to f g in + f g)) (leave e in copy 1 to h i in + h i)"
            " | rows 0 | sub 0 | dbl 0 | dbl 0 | drop 0\n"))

    def test_calls_in_rows_of_functions_with_a_test(self):
        self.check("""fun len List = Num
len Nil = one
len (Cons x t) = inc (sum (len t) (inc x))
fun one = Num
one = 1
fun inc Num = Num
inc n = sum n one
fun sum Num Num = Num
sum a b = + a b
fun start List = Num
start l = inc (len l)
""", """len of len: List = Num
  Nil 0: 1 | len 0 | one 0
  Cons 2: + (+ (len b) (+ a 1)) 1 | len 1 | inc 0 | sum 0 | one 0 | sum 0 | inc 0 | sum 0 | one 0
start len 1: len a
start one 0: 1 | one 0
start inc 1: + a 1 | inc 0 | sum 0 | one 0
start sum 2: + a b | sum 0
start start 1: + (len a) 1 | start 0 | inc 0 | sum 0 | one 0
""")

    def test_functions_that_call_what_stands_behind_them(self):
        self.check("""fun first Truth Num = Num
first b n = second n b
fun second Num Truth = Num
second n Yes = first No n
second n No = n
""", """second of second: Truth Num = Num
  Yes 1: second No a | second 0 | first 0
  No 1: a | second 1
start first 2: second a b | first 0
start second 2: second b a
""")

    def test_needless_rows_and_rows_behind_a_row_of_places(self):
        self.check("""fun f Truth = Num
f x = 1
f Yes = 2
fun g Truth Truth = Num
g Yes x = 1
g Yes Yes = 2
g x y = 3
g No y = 4
""", """g of g: Truth Truth = Num
  Yes 1: leave a in 1 | g 0
  No 1: leave a in 3 | g 2
start f 1: leave a in 1 | f 0
start g 2: g a b
""")

    def test_a_program_without_functions(self):
        self.check("", "\n")
        flat = flattened(Program(""))
        self.assertEqual((flat.functions, flat.starts), ((), ()))

    def test_the_program_is_kept(self):
        program = Program(KINDS)
        self.assertIs(flattened(program).program, program)


class Always(unittest.TestCase):
    def test_what_always_holds(self):
        for seed in range(150):
            flat = flattened(some_program(random.Random(seed), Program)[0])
            self.assertIsNone(fault_of(flat))
            self.assertEqual([start.name for start in flat.starts], [one.name for one in flat.program.functions])

    def test_equal_calls_give_equal_names(self):
        for seed in range(20):
            program = some_program(random.Random(seed), Program)[0]
            told = []
            for flat in (flattened(program), flattened(program)):
                rows = [row for function in flat.functions for row in function.rows] + list(flat.starts)
                told.append([(row.names, [(one.one, one.two) for one in all_in(row.body) if isinstance(one, Copy)])
                             for row in rows])
            self.assertEqual(told[0], told[1])

    def test_many_lets_and_copies(self):
        text = "x100"
        for k in reversed(range(100)):
            text = f"let x{k + 1} = + x{k} 1 in {text}"
        flat = flattened(Program(f"fun f Num = Num\nf x0 = {text}"))
        self.assertIsNone(fault_of(flat))
        self.assertEqual(len(all_in(flat.starts[0].body)), 201)
        text = "n"
        for _ in range(100):
            text = f"+ n ({text})"
        flat = flattened(Program(f"fun f Num = Num\nf n = {text}"))
        self.assertIsNone(fault_of(flat))
        self.assertEqual(len([one for one in all_in(flat.starts[0].body) if isinstance(one, Copy)]), 100)

    def test_many_looks(self):
        pattern = "t"
        for k in range(60):
            pattern = f"(Cons x{k} {pattern})"
        flat = flattened(Program(f"{KINDS}fun f List = Num\nf {pattern} = x1\nf x = 0"))
        self.assertIsNone(fault_of(flat))
        self.assertEqual([one.name for one in flat.functions], ["f"] + [f"f/{k}" for k in range(1, 60)])


if __name__ == "__main__":
    unittest.main()
