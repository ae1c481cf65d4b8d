"""[27] and [28]: what flat programs mean."""

import random
import unittest

from namedmeets.errors import BadNumber, BadValue, NoName
from namedmeets.flat import Copy, Flat, FlatFunction, FlatRow, Leave, Start
from namedmeets.flatrun import flat_plain, tests_of
from namedmeets.flatten import flattened
from namedmeets.plain import Came, plain
from namedmeets.programs import Program
from namedmeets.trees import Applied, Number, Place
from namedmeets.values import value_from, written_value
from tests.helpers import chain, first_row, raises, slow_flat, slow_plain, some_program, some_value

TEXT = """kind List = Nil | Cons Num List
kind Pair = Pair List List
fun append List List = List
append Nil y = y
append (Cons x t) y = Cons x (append t y)
fun rev List = List
rev Nil = Nil
rev (Cons x t) = append (rev t) (Cons x Nil)
fun len List = Num
len Nil = 0
len (Cons x t) = + 1 (len t)
fun five = Num
five = 5
fun same Num = Num
same n = n
fun dbl Num = Num
dbl n = + n n
fun less Num Num = Truth
less a b = < a b
fun like Num Num = Truth
like a b = = a b
fun minus Num Num = Num
minus a b = - a b
fun times Num Num = Num
times a b = * a b
fun both List = Pair
both l = Pair l l
fun left List List = List
left a b = b
fun pick List List = Num
pick Nil x = 1
pick x Nil = 2
pick (Cons a t) (Cons b u) = + a (* 10 b)
fun ever Truth = Num
ever Yes = ever Yes
ever No = 0
fun hidden Truth = Num
hidden x = let k = ever x in 1
fun grow Truth = List
grow Yes = Cons 1 (grow Yes)
grow x = Nil
fun deep List Truth = Num
deep Nil Yes = 1
deep (Cons x (Cons y Nil)) Yes = 2
deep (Cons x t) No = 3
deep l b = 4
"""
PROGRAM = Program(TEXT)
FLAT = flattened(PROGRAM)


def given(values):
    return [value_from(one) if isinstance(one, str) else one for one in values]


def run(name, values, fuel=100000):
    """The written value and the count, None above fuel; values are texts or values."""
    came = flat_plain(FLAT, name, given(values), fuel)
    return None if came is None else (written_value(came.value), came.count)


class Meaning(unittest.TestCase):
    def test_values_and_counts(self):
        for name, values, text, count in (
            ("append", ("Nil", "Nil"), "Nil", 1),
            ("append", ("Cons 1 (Cons 2 Nil)", "Cons 3 Nil"), "Cons 1 (Cons 2 (Cons 3 Nil))", 3),
            ("rev", ("Cons 1 (Cons 2 (Cons 3 Nil))",), "Cons 3 (Cons 2 (Cons 1 Nil))", 10),
            ("five", (), "5", 0), ("same", (-9,), "-9", 0),
            # A copy or leave counts the size of its value, a sign 2, a test 1.
            ("dbl", (21,), "42", 3), ("less", (1, 2), "Yes", 2), ("less", (2, 2), "No", 2), ("like", (2, 2), "Yes", 2),
            ("like", (-2, 2), "No", 2), ("minus", (5, 7), "-2", 2), ("times", (-3, 4), "-12", 2),
            ("both", ("Nil",), "Pair Nil Nil", 1),
            ("both", ("Cons 1 (Cons 2 Nil)",), "Pair (Cons 1 (Cons 2 Nil)) (Cons 1 (Cons 2 Nil))", 5),
            ("left", ("Cons 1 (Cons 2 Nil)", "Nil"), "Nil", 5),
            ("len", ("Cons 1 (Cons 2 Nil)",), "2", 3 + 2 * (1 + 2)),
            ("pick", ("Nil", "Cons 1 Nil"), "1", 1 + 3), ("pick", ("Cons 4 (Cons 5 Nil)", "Nil"), "2", 2 + 1 + 3),
            ("pick", ("Cons 1 Nil", "Cons 2 (Cons 3 Nil)"), "21", 2 + 1 + 3 + 4),
            ("hidden", ("No",), "1", 1 + 1),
        ):
            self.assertEqual(run(name, values), (text, count), name)

    def test_came(self):
        came = flat_plain(FLAT, "dbl", (2,), 3)
        self.assertIsInstance(came, Came)
        self.assertEqual((came.value, came.count), (4, 3))

    def test_fuel_at_the_count(self):
        for name, values in (("rev", ("Cons 1 (Cons 2 (Cons 3 Nil))",)), ("five", ()), ("dbl", (1,)), ("both", ("Nil",)),
                             ("len", ("Cons 1 (Cons 2 Nil)",)), ("left", ("Cons 1 Nil", "Nil")), ("less", (1, 2))):
            told = run(name, values)
            self.assertEqual(run(name, values, told[1]), told)
            self.assertEqual(run(name, values, told[1] + 1), told)
            for fuel in range(told[1]):
                self.assertIsNone(run(name, values, fuel))

    def test_for_ever(self):
        for fuel in (0, 1, 2, 999, 100000):
            self.assertIsNone(run("ever", ("Yes",), fuel))
            self.assertIsNone(run("grow", ("Yes",), fuel))
            self.assertIsNone(run("hidden", ("Yes",), fuel))

    def test_deep_values_and_long_runs(self):
        value = chain(2500, value_from("Nil"))
        self.assertEqual(run("len", (value,)), ("2500", 2501 + 2500 * 3))
        self.assertTrue(flat_plain(FLAT, "append", [value, value], 5000).value == chain(5000, value_from("Nil")))
        self.assertEqual(flat_plain(FLAT, "both", [value], 10000).count, 5001)
        self.assertEqual(run("left", (value, "Nil"))[1], 5001)
        self.assertEqual(run("dbl", (10 ** 900,)), ("2" + "0" * 900, 3))

    def test_names_that_sound_like_steps(self):
        program = Program("fun f Num Num Num = Num\nf copy leave place = - (+ copy copy) (* leave leave)\n"
                          "fun g Num Num Num = Num\ng make call sign = let number = 7 in + (- make number) 1")
        for name, value, count in (("f", 1, 1 + 1 + 1 + 2 + 2 + 2), ("g", -1, 1 + 1 + 2 + 2)):
            came = flat_plain(flattened(program), name, [5, 3, 100], 100)
            self.assertEqual((came.value, came.count), (value, count))
            self.assertEqual(plain(program, name, [5, 3, 100], 100).value, value)

    def test_flat_programs_that_callers_make(self):
        x = Place
        rows = (FlatRow("Yes", ("n",), Copy(x("n"), "a", "b", Applied("f", (Applied("No", ()), Applied(
            "+", (x("a"), Copy(x("b"), "c", "d", Applied("*", (x("c"), x("d"))))))))), ()),
            FlatRow("No", ("n",), Leave(Applied("Pair", (Number(1), x("n"))), Number(8)), ()))
        program = Program("kind Pair = Pair Num Num\nfun f Num Truth = Num\nf n b = 1")
        flat = Flat(program, (FlatFunction("f", "f", ("Truth", "Num"), "Num", rows),),
                    (Start("f", ("v", "w"), Applied("f", (x("w"), x("v"))), ()),))
        came = flat_plain(flat, "f", [5, value_from("Yes")], 100)
        self.assertEqual((came.value, came.count), (8, 1 + 1 + 1 + 2 + 2 + 1 + 3))
        came = flat_plain(flat, "f", [5, value_from("No")], 100)
        self.assertEqual((came.value, came.count), (8, 1 + 3))


class Errors(unittest.TestCase):
    def test_names_that_no_function_has(self):
        for name in ("Cons", "nope", "", "pick/1", "deep/2", None, 5, ["five"], ("five",)):
            raises(self, NoName, {"name": name}, flat_plain, FLAT, name, [], 5)
            raises(self, NoName, {"name": name}, tests_of, PROGRAM, name, [])

    def test_values_that_do_not_suit(self):
        nil = value_from("Nil")
        for name, values in (("same", []), ("same", [1, 2]), ("five", (1,)), ("pick", [nil])):
            raises(self, BadValue, {"value": values, "why": "count"}, flat_plain, FLAT, name, values, 5)
            raises(self, BadValue, {"value": values, "why": "count"}, tests_of, PROGRAM, name, values)
        for name, values, wrong in (("same", [nil], nil), ("pick", [nil, 4], 4), ("pick", [5, 4], 5), ("same", [True], True),
                                    ("len", [value_from("Cons 1 2")], value_from("Cons 1 2")), ("same", [None], None)):
            raises(self, BadValue, {"value": wrong, "why": "kind"}, flat_plain, FLAT, name, values, 5)
            raises(self, BadValue, {"value": wrong, "why": "kind"}, tests_of, PROGRAM, name, values)

    def test_fuel_that_is_none(self):
        for fuel in (-1, True, False, None, "5", 1.0, [5]):
            raises(self, BadNumber, {"what": "fuel", "number": fuel}, flat_plain, FLAT, "same", [1], fuel)

    def test_several_at_once(self):
        raises(self, NoName, {"name": "nope"}, flat_plain, FLAT, "nope", [None], -1)
        raises(self, BadValue, {"value": [None, 1], "why": "count"}, flat_plain, FLAT, "same", [None, 1], -1)
        raises(self, BadValue, {"value": None, "why": "kind"}, flat_plain, FLAT, "same", [None], -1)
        raises(self, BadNumber, {"what": "fuel", "number": -1}, flat_plain, FLAT, "same", [1], -1)
        raises(self, NoName, {"name": "nope"}, tests_of, PROGRAM, "nope", [None])
        raises(self, BadValue, {"value": [None, 1], "why": "count"}, tests_of, PROGRAM, "same", [None, 1])


class TestsOf(unittest.TestCase):
    def test_how_many_and_which_row(self):
        for name, values, told in (
            ("five", (), (0, 0)), ("same", (1,), (0, 0)), ("len", ("Nil",), (1, 0)), ("len", ("Cons 1 Nil",), (1, 1)),
            ("pick", ("Nil", "Nil"), (1, 0)), ("pick", ("Cons 1 Nil", "Nil"), (2, 1)),
            ("pick", ("Cons 1 Nil", "Cons 2 Nil"), (2, 2)),
            ("deep", ("Nil", "Yes"), (2, 0)), ("deep", ("Nil", "No"), (2, 3)),
            ("deep", ("Cons 1 (Cons 2 Nil)", "Yes"), (4, 1)), ("deep", ("Cons 1 (Cons 2 Nil)", "No"), (4, 2)),
            ("deep", ("Cons 1 Nil", "Yes"), (3, 3)), ("deep", ("Cons 1 Nil", "No"), (3, 2)),
            ("deep", ("Cons 1 (Cons 2 (Cons 3 Nil))", "Yes"), (4, 3)),
            ("deep", ("Cons 1 (Cons 2 (Cons 3 Nil))", "No"), (4, 2)),
        ):
            self.assertEqual(tests_of(PROGRAM, name, given(values)), told, (name, values))
        self.assertEqual(tests_of(PROGRAM, "len", (chain(2500, value_from("Nil")),)), (1, 1))
        self.assertIs(tests_of(PROGRAM, "five", []).__class__, tuple)


class MadeUp(unittest.TestCase):
    def test_plain_and_flat_mean_the_same(self):
        came = 0
        for seed in range(150):
            rnd = random.Random(seed)
            program, heads = some_program(rnd, Program)
            flat = flattened(program)
            for name, places, _ in heads:
                for _ in range(3):
                    values = [some_value(rnd, program, place, 3) for place in places]
                    came += self.compare(program, flat, name, values)
        self.assertGreater(came, 600)

    def compare(self, program, flat, name, values):
        slow = slow_flat(flat, name, values, 1000)
        fast = flat_plain(flat, name, values, 1000)
        self.assertEqual(slow is None, fast is None)
        function = [one for one in program.functions if one.name == name][0]
        self.assertEqual(tests_of(program, name, values)[1], first_row(function, values)[0])
        if slow is None:
            return 0
        value, count, rows = slow
        self.assertTrue(fast.value == value)
        self.assertEqual(fast.count, count)
        if count:
            self.assertIsNone(flat_plain(flat, name, values, count - 1))
        # The rows that come into force are, row by row, those that the plain meaning uses.
        plainly, _, used = slow_plain(program, name, values, 10000)
        self.assertTrue(plainly == value)
        self.assertEqual(used, rows)
        self.assertTrue(plain(program, name, values, 10000).value == value)
        return 1


if __name__ == "__main__":
    unittest.main()
