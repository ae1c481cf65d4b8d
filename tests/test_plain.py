"""[13] to [17]: the plain meaning."""

import random
import unittest

from namedmeets.errors import BadNumber, BadValue, NoName
from namedmeets.plain import Came, plain
from namedmeets.programs import Program
from namedmeets.values import Made, value_from, written_value
from tests.helpers import chain, raises, slow_plain, some_program, some_value

TEXT = """kind List = Nil | Cons Num List
kind Pair = Pair Num Num
fun append List List = List
append Nil y = y
append (Cons x t) y = Cons x (append t y)
fun rev List = List
rev Nil = Nil
rev (Cons x t) = append (rev t) (Cons x Nil)
fun len List = Num
len Nil = 0
len (Cons x t) = + 1 (len t)
fun five = Num
five = 5
fun same Num = Num
same n = n
fun sum3 Num Num Num = Num
sum3 a b c = + a (+ b c)
fun minus Num Num = Num
minus a b = - a b
fun times Num Num = Num
times a b = * a b
fun less Num Num = Truth
less a b = < a b
fun like Num Num = Truth
like a b = = a b
fun unused Num = Num
unused n = let k = sum3 n n n in let l = Cons k Nil in 7
fun nested Num = Num
nested n = let a = let b = * n n in + b b in let c = same a in - c n
fun ever Truth = Num
ever Yes = ever Yes
ever No = 0
fun hidden Truth = Num
hidden x = let k = ever x in 1
fun dropped Truth = Num
dropped x = first 3 (ever x)
fun first Num Num = Num
first a b = a
fun grow Truth = List
grow Yes = Cons 1 (grow Yes)
grow x = Nil
fun count Num = Num
count n = down (< n 1) n
fun down Truth Num = Num
down Yes n = 0
down No n = + 1 (count (- n 1))
fun copies List = List
copies Nil = Nil
copies (Cons x t) = Cons x (Cons x (copies t))
fun pick List List = Num
pick Nil x = 1
pick x Nil = 2
pick (Cons a t) (Cons b u) = + a (* 10 b)
pick x y = 4
fun swap Pair = Pair
swap (Pair a b) = Pair b a
"""
PROGRAM = Program(TEXT)


def run(name, values, fuel=100000):
    """The written value and the count, None above fuel; values are texts or values."""
    given = [value_from(one) if isinstance(one, str) else one for one in values]
    came = plain(PROGRAM, name, given, fuel)
    return None if came is None else (written_value(came.value), came.count)


class Meaning(unittest.TestCase):
    def test_values_and_counts(self):
        for name, values, text, count in (
            ("append", ("Nil", "Nil"), "Nil", 1),
            ("append", ("Nil", "Cons 1 Nil"), "Cons 1 Nil", 1),
            ("append", ("Cons 1 (Cons 2 Nil)", "Cons 3 Nil"), "Cons 1 (Cons 2 (Cons 3 Nil))", 3),
            ("rev", ("Cons 1 (Cons 2 (Cons 3 Nil))",), "Cons 3 (Cons 2 (Cons 1 Nil))", 10),
            ("len", ("Cons 1 (Cons 2 (Cons 3 Nil))",), "3", 7),
            ("five", (), "5", 1), ("same", (-9,), "-9", 1), ("sum3", (1, 2, 3), "6", 3),
            ("swap", ("Pair 1 2",), "Pair 2 1", 1), ("copies", ("Cons 4 Nil",), "Cons 4 (Cons 4 Nil)", 2),
            ("count", (3,), "3", 18), ("ever", ("No",), "0", 1),
        ):
            self.assertEqual(run(name, values), (text, count), name)

    def test_signs(self):
        for name, one, two, text in (
            ("minus", 5, 7, "-2"), ("minus", -5, -7, "2"), ("times", -3, 4, "-12"), ("times", 0, -5, "0"),
            ("less", 1, 2, "Yes"), ("less", 2, 2, "No"), ("less", 3, 2, "No"), ("less", -3, -2, "Yes"),
            ("like", 2, 2, "Yes"), ("like", 2, 3, "No"), ("like", -2, 2, "No"),
        ):
            self.assertEqual(run(name, (one, two)), (text, 2))
        self.assertEqual(plain(PROGRAM, "less", [1, 2], 5).value, Made("Yes", ()))
        self.assertIs(plain(PROGRAM, "like", [0, 0], 5).value.__class__, Made)

    def test_the_first_row_that_fits_counts(self):
        self.assertEqual(run("pick", ("Nil", "Nil")), ("1", 1))
        self.assertEqual(run("pick", ("Cons 3 Nil", "Nil")), ("2", 1))
        self.assertEqual(run("pick", ("Cons 3 Nil", "Cons 4 Nil")), ("43", 3))
        self.assertEqual(run("pick", ("Nil", "Cons 4 Nil")), ("1", 1))

    def test_everything_written_is_worked_out(self):
        self.assertEqual(run("unused", (1,)), ("7", 4))
        self.assertEqual(run("nested", (3,)), ("15", 5))
        self.assertEqual(run("dropped", ("No",)), ("3", 3))
        self.assertEqual(run("hidden", ("No",)), ("1", 2))
        self.assertIsNone(run("hidden", ("Yes",)))
        self.assertIsNone(run("dropped", ("Yes",)))

    def test_came(self):
        came = plain(PROGRAM, "five", [], 10)
        self.assertIsInstance(came, Came)
        self.assertEqual((came.value, came.count), (5, 1))
        made = Came("v", 3)
        self.assertEqual((made.value, made.count), ("v", 3))

    def test_a_tuple_does_as_well_as_a_list(self):
        self.assertEqual(plain(PROGRAM, "sum3", (1, 2, 3), 9).value, 6)

    def test_values_passed_stay(self):
        values = [value_from("Cons 1 Nil"), value_from("Nil")]
        plain(PROGRAM, "append", values, 10)
        self.assertEqual(values, [value_from("Cons 1 Nil"), value_from("Nil")])


class Fuel(unittest.TestCase):
    def test_at_the_count(self):
        for name, values in (("rev", ("Cons 1 (Cons 2 (Cons 3 Nil))",)), ("five", ()), ("sum3", (1, 2, 3)), ("count", (4,)),
                             ("unused", (1,)), ("less", (1, 2)), ("nested", (3,))):
            told = run(name, values)
            self.assertEqual(run(name, values, told[1]), told)
            self.assertEqual(run(name, values, told[1] + 1), told)
            for less in range(told[1]):
                self.assertIsNone(run(name, values, less))

    def test_for_ever(self):
        for fuel in (0, 1, 2, 999, 100000):
            self.assertIsNone(run("ever", ("Yes",), fuel))
            self.assertIsNone(run("grow", ("Yes",), fuel))
            self.assertIsNone(run("hidden", ("Yes",), fuel))

    def test_no_fuel(self):
        self.assertIsNone(run("five", (), 0))


class LongRuns(unittest.TestCase):
    def test_many_steps(self):
        self.assertEqual(run("count", (19000,)), ("19000", 95003))

    def test_deep_values(self):
        value = chain(2500, value_from("Nil"))
        self.assertEqual(run("len", (value,)), ("2500", 5001))
        came = plain(PROGRAM, "append", [value, value], 5000)
        self.assertEqual(came.count, 2501)
        self.assertTrue(came.value == chain(5000, value_from("Nil")))

    def test_large_numbers(self):
        big = 10 ** 900 + 7
        self.assertEqual(plain(PROGRAM, "minus", [-big, big], 5).value, -2 * big)
        self.assertEqual(run("like", (big, big)), ("Yes", 2))
        self.assertEqual(run("less", (big, big + 1)), ("Yes", 2))

    def test_deep_bodies(self):
        text = "x"
        for _ in range(150):
            text = f"+ 1 ({text})"
        self.assertEqual(plain(Program(f"fun f Num = Num\nf x = {text}"), "f", [5], 1000).value, 155)


class Errors(unittest.TestCase):
    def test_names_that_no_function_has(self):
        for name in ("Cons", "nope", "", "List", "+", None, 5, ["five"], ("five",), True):
            raises(self, NoName, {"name": name}, plain, PROGRAM, name, [], 5)

    def test_too_few_and_too_many_values(self):
        for name, values in (("same", []), ("same", [1, 2]), ("five", [1]), ("sum3", [1, 2]), ("sum3", (1, 2, 3, 4)),
                             ("same", None), ("five", 0), ("same", "1")):
            raises(self, BadValue, {"value": values, "why": "count"}, plain, PROGRAM, name, values, 5)
        values = [1, 2]
        with self.assertRaises(BadValue) as caught:
            plain(PROGRAM, "same", values, 5)
        self.assertIs(caught.exception.value, values)

    def test_values_of_other_kinds(self):
        nil = value_from("Nil")
        for name, values, wrong in (
            ("same", [nil], nil), ("len", [3], 3), ("append", [nil, 4], 4), ("append", [5, 4], 5), ("same", [True], True),
            ("same", ["1"], "1"), ("same", [None], None), ("len", [[]], []), ("sum3", [1, 2.0, None], 2.0),
            ("len", [value_from("Cons 1 2")], value_from("Cons 1 2")), ("ever", [value_from("Yes 1")], value_from("Yes 1")),
        ):
            raises(self, BadValue, {"value": wrong, "why": "kind"}, plain, PROGRAM, name, values, 5)
        deep = chain(2500, 0)
        with self.assertRaises(BadValue) as caught:
            plain(PROGRAM, "len", [deep], 5)
        self.assertIs(caught.exception.value, deep)

    def test_fuel_that_is_none(self):
        for fuel in (-1, -100, True, False, None, "5", 1.0, [5], value_from("Nil")):
            raises(self, BadNumber, {"what": "fuel", "number": fuel}, plain, PROGRAM, "same", [1], fuel)

    def test_several_at_once(self):
        raises(self, NoName, {"name": "nope"}, plain, PROGRAM, "nope", [None], -1)
        raises(self, BadValue, {"value": [None, None], "why": "count"}, plain, PROGRAM, "same", [None, None], -1)
        raises(self, BadValue, {"value": None, "why": "kind"}, plain, PROGRAM, "same", [None], -1)
        raises(self, BadValue, {"value": "a", "why": "kind"}, plain, PROGRAM, "sum3", [1, "a", "b"], None)
        raises(self, BadNumber, {"what": "fuel", "number": None}, plain, PROGRAM, "same", [1], None)


class MadeUp(unittest.TestCase):
    def test_made_up_programs(self):
        came = 0
        for seed in range(120):
            rnd = random.Random(seed)
            program, heads = some_program(rnd, Program)
            for name, places, _ in heads:
                for _ in range(3):
                    values = [some_value(rnd, program, place, 3) for place in places]
                    slow = slow_plain(program, name, values, 60)
                    fast = plain(program, name, values, 60)
                    self.assertEqual(slow is None, fast is None)
                    if slow is not None:
                        came += 1
                        self.assertTrue(fast.value == slow[0])
                        self.assertEqual(fast.count, slow[1])
        self.assertGreater(came, 500)


if __name__ == "__main__":
    unittest.main()
