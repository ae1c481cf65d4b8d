"""[11] place_kinds and tests, and [12]."""

import unittest

from namedmeets.checking import place_kinds, tests
from namedmeets.programs import Program, function_named
from namedmeets.trees import Function, Number, Place, Row, Shape

TEXT = """kind List = Nil | Cons Num List
kind Two = Two List Truth
fun f Two Num List = Num
f (Two (Cons a b) c) d (Cons e g) = let h = b in let i = < a d in let j = let k = g in k in e
f (Two x Yes) y Nil = + (let p = let q = Two x No in q in y) (let r = let s = 1 in s in let t = Yes in r)
f u v w = let l = f u v w in let m = l in let n = m in let o = z in n
fun z = List
z = let a = + 1 1 in let b = = a a in let c = Cons a Nil in c
fun e Truth = Num
e No = 1
e x = 2
"""


class PlaceKinds(unittest.TestCase):
    def pairs(self, name, index):
        program = Program(TEXT)
        return place_kinds(program, function_named(program, name), index)

    def test_patterns_then_lets(self):
        self.assertEqual(
            self.pairs("f", 0),
            (("a", "Num"), ("b", "List"), ("c", "Truth"), ("d", "Num"), ("e", "Num"), ("g", "List"),
             ("h", "List"), ("i", "Truth"), ("j", "List"), ("k", "List")))

    def test_lets_in_the_order_of_the_word_let(self):
        self.assertEqual(
            self.pairs("f", 1),
            (("x", "List"), ("y", "Num"), ("p", "Two"), ("q", "Two"), ("r", "Num"), ("s", "Num"), ("t", "Truth")))

    def test_lets_of_lets(self):
        self.assertEqual(
            self.pairs("f", 2),
            (("u", "Two"), ("v", "Num"), ("w", "List"), ("l", "Num"), ("m", "Num"), ("n", "Num"), ("o", "List")))
        self.assertEqual(self.pairs("z", 0), (("a", "Num"), ("b", "Truth"), ("c", "List")))

    def test_no_names(self):
        self.assertEqual(self.pairs("e", 0), ())
        self.assertEqual(self.pairs("e", 1), (("x", "Truth"),))

    def test_the_result_is_a_tuple_of_tuples(self):
        pairs = self.pairs("f", 0)
        self.assertEqual({pair.__class__ for pair in pairs}, {tuple})
        self.assertIs(pairs.__class__, tuple)


class Tests(unittest.TestCase):
    def check(self, patterns, tested):
        one = Row(patterns, Number(1))
        self.assertIs(tests(Function("f", ["Truth"] * len(patterns), "Num", [one])), tested)
        plain = Row([Place("x")] * len(patterns), Number(1))
        self.assertIs(tests(Function("f", ["Truth"] * len(patterns), "Num", [one, plain])), tested)
        self.assertIs(tests(Function("f", ["Truth"] * len(patterns), "Num", [plain, one])), False)

    def test_the_first_row_tells(self):
        self.check([], False)
        self.check([Place("x")], False)
        self.check([Place("x"), Place("y")], False)
        self.check([Shape("Yes", ())], True)
        self.check([Place("x"), Shape("Yes", ())], True)
        self.check([Shape("Two", (Place("x"), Place("y"))), Place("z")], True)


if __name__ == "__main__":
    unittest.main()
