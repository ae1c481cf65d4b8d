"""[9] and [10]: patterns and values."""

import random
import unittest

from namedmeets.errors import BadNumber, NoName
from namedmeets.patterns import comes_to, counting_row, fits, least_value, matched, missing, needless
from namedmeets.trees import Function, Kind, Maker, Number, Place, Row, Shape
from namedmeets.values import Made, value_from, written_value
from tests.helpers import chain, first_row, key_of, makers_by_kind, raises, smallest_by_trying

NIL = Made("Nil", ())


class Some:
    """What has the attributes of a program."""

    def __init__(self, text):
        self.functions = ()
        self.kinds = [kind_by("Truth = Yes | No")] + [kind_by(line) for line in text.split("\n")]
        self.kinds = tuple(self.kinds)


def kind_by(line):
    name, _, makers = line.partition(" = ")
    return Kind(name, [Maker(words.split()[0], words.split()[1:]) for words in makers.split("|")])


LISTS = Some("List = Nil | Cons Num List\nPair = Pair List Truth\nTree = Leaf | Node Tree Color Tree\n"
             "Color = Red | Blue | Green")


def pattern_by(text):
    """A pattern by a text: a word of capitals is a maker, any other one a name."""
    words = text.replace("(", " ( ").replace(")", " ) ").split()

    def one():
        word = words.pop(0)
        if word != "(":
            return Shape(word, ()) if word[0].isupper() else Place(word)
        maker, parts = words.pop(0), []
        while words[0] != ")":
            parts.append(one())
        words.pop(0)
        return Shape(maker, parts)

    found = []
    while words:
        found.append(one())
    return found


def function_by(places, *rows):
    """A function with rows of patterns, bodies of no account."""
    return Function("f", places.split(), "Num", [Row(pattern_by(row), Number(k)) for k, row in enumerate(rows)])


def texts(values):
    return None if values is None else [written_value(value) for value in values]


class Fits(unittest.TestCase):
    def test_values_that_fit(self):
        for value, kind in ((0, "Num"), (-10 ** 500, "Num"), (NIL, "List"), (value_from("Cons 5 (Cons 6 Nil)"), "List"),
                            (value_from("Yes"), "Truth"), (value_from("Pair (Cons 1 Nil) No"), "Pair"),
                            (value_from("Node (Node Leaf Red Leaf) Blue Leaf"), "Tree")):
            self.assertIs(fits(LISTS, value, kind), True)

    def test_values_that_do_not(self):
        for value, kind in (
            (NIL, "Num"), (0, "List"), (0, "Truth"), (NIL, "Truth"), (value_from("Nil 1"), "List"),
            (value_from("Cons 1"), "List"), (value_from("Cons Nil Nil"), "List"), (value_from("Cons 1 2"), "List"),
            (value_from("Cons 1 Yes"), "List"), (value_from("Cons 1 Nil Nil"), "List"), (value_from("Cons"), "List"),
            (value_from("Pair Nil Nil"), "Pair"), (value_from("List"), "List"), (value_from("Num"), "Num"),
            (value_from("Node Leaf Leaf Leaf"), "Tree"), (value_from("Node (Node Leaf Yes Leaf) Red Leaf"), "Tree"),
            (value_from("Node Leaf Red (Node Leaf Red 1)"), "Tree"), (value_from("Other"), "List"),
        ):
            self.assertIs(fits(LISTS, value, kind), False, written_value(value))

    def test_values_of_any_class(self):
        for value in (None, True, False, "Nil", "", ("Nil", ()), [], {}, 1.0, object(), Place("x"), Number(1), Made,
                      Shape("Nil", ()), set(), b"Nil"):
            for kind in ("Num", "List", "Truth"):
                self.assertIs(fits(LISTS, value, kind), False)
            self.assertIs(fits(LISTS, Made("Cons", (value, NIL)), "List"), False)
            self.assertIs(fits(LISTS, Made("Cons", (1, value)), "List"), False)
            self.assertIs(fits(LISTS, Made(value, ()), "List"), value == "Nil")
        self.assertIs(fits(LISTS, Made("Nil", None), "List"), False)
        self.assertIs(fits(LISTS, Made(["Nil"], ()), "List"), False)

    def test_kinds_that_are_not_there(self):
        for kind in ("Nope", "", "num", "Nil", None, 5, ["List"], NIL, True):
            raises(self, NoName, {"name": kind}, fits, LISTS, NIL, kind)
            raises(self, NoName, {"name": kind}, fits, LISTS, None, kind)
            raises(self, NoName, {"name": kind}, least_value, LISTS, kind)

    def test_deep_values(self):
        self.assertIs(fits(LISTS, chain(2500, NIL), "List"), True)
        self.assertIs(fits(LISTS, chain(2500, 0), "List"), False)
        self.assertIs(fits(LISTS, chain(2500, Made("Leaf", ()), "Node", (), (Made("Red", ()), Made("Leaf", ()))), "Tree"),
                      True)


class Matched(unittest.TestCase):
    def test_places(self):
        self.assertEqual(matched(Place("x"), 5), (("x", 5),))
        value = chain(2500, NIL)
        self.assertIs(matched(Place("x"), value)[0][1], value)

    def test_shapes(self):
        pattern = pattern_by("(Cons x (Cons y t))")[0]
        self.assertEqual(matched(pattern, value_from("Cons 1 (Cons 2 (Cons 3 Nil))")),
                         (("x", 1), ("y", 2), ("t", value_from("Cons 3 Nil"))))
        self.assertIsNone(matched(pattern, value_from("Cons 1 Nil")))
        self.assertIsNone(matched(pattern, NIL))
        self.assertIsNone(matched(pattern, 5))
        self.assertEqual(matched(Shape("Nil", ()), NIL), ())
        self.assertIsNone(matched(Shape("Nil", ()), value_from("Nil 1")))
        self.assertIsNone(matched(Shape("Nil", ()), value_from("Nul")))
        self.assertIsNone(matched(pattern_by("(Cons x)")[0], value_from("Cons 1 Nil")))
        self.assertIsNone(matched(pattern_by("(Cons x y z)")[0], value_from("Cons 1 Nil")))

    def test_from_left_to_right(self):
        pattern = pattern_by("(N (N a b) c (N d (N e) f))")[0]
        value = value_from("N (N 1 2) 3 (N 4 (N 5) 6)")
        self.assertEqual(matched(pattern, value), (("a", 1), ("b", 2), ("c", 3), ("d", 4), ("e", 5), ("f", 6)))
        self.assertIs(matched(pattern, value).__class__, tuple)
        self.assertIs(matched(pattern, value)[0].__class__, tuple)

    def test_the_last_part_decides_too(self):
        self.assertIsNone(matched(pattern_by("(N a (M b))")[0], value_from("N 1 (K 2)")))
        self.assertIsNone(matched(pattern_by("(N (M b) a)")[0], value_from("N (K 2) 1")))


class CountingRow(unittest.TestCase):
    def test_the_first_one_that_fits(self):
        function = function_by("List List", "Nil y", "x Nil", "(Cons x t) (Cons y u)", "x y")
        for one, other, index, names in (
            ("Nil", "Nil", 0, "y"), ("Nil", "Cons 1 Nil", 0, "y"), ("Cons 1 Nil", "Nil", 1, "x"),
            ("Cons 1 Nil", "Cons 2 Nil", 2, "xtyu"),
        ):
            row, pairs = counting_row(function, [value_from(one), value_from(other)])
            self.assertEqual(row, index)
            self.assertEqual([name for name, _ in pairs], list(names))
        self.assertEqual(counting_row(function, (value_from("Cons 1 Nil"), value_from("Cons 2 (Cons 3 Nil)"))),
                         (2, (("x", 1), ("t", NIL), ("y", 2), ("u", value_from("Cons 3 Nil")))))

    def test_none(self):
        function = function_by("List List", "Nil y", "x Nil")
        self.assertIsNone(counting_row(function, [value_from("Cons 1 Nil")] * 2))
        self.assertIsNone(counting_row(function_by("List"), [NIL]))
        self.assertIsNone(counting_row(function_by(""), []))

    def test_no_places(self):
        self.assertEqual(counting_row(function_by("", "", ""), []), (0, ()))


class LeastValue(unittest.TestCase):
    def test_by_cells(self):
        for kind, text in (("Num", "0"), ("Truth", "Yes"), ("List", "Nil"), ("Pair", "Pair Nil Yes"), ("Color", "Red"),
                           ("Tree", "Leaf")):
            self.assertEqual(least_value(LISTS, kind), value_from(text))

    def test_by_the_order_of_makers(self):
        some = Some("A = A1 B | A2 Num | A3\nB = B1 A A | B2 Num | B3 A\nC = C1 D | C2 Num | C3 D D\n"
                    "D = D1 Num Num | D2 C | D3 Num Num\nE = E1 F Num | E2 Num F\nF = F1 | F2")
        for kind, text in (("A", "A3"), ("B", "B2 0"), ("C", "C2 0"), ("D", "D1 0 0"), ("E", "E1 F1 0"), ("F", "F1")):
            self.assertEqual(least_value(some, kind), value_from(text))

    def test_fewer_cells_go_ahead_of_the_order(self):
        some = Some("A = A1 B B | A2 B | A3 A\nB = B1 Num | B2")
        self.assertEqual(least_value(some, "A"), value_from("A2 B2"))

    def test_large(self):
        lines = ["K0 = E0 | F0"] + [f"K{k} = E{k} K{k - 1} K{k - 1}" for k in range(1, 10)]
        self.assertEqual(key_of(Some("\n".join(lines)), [least_value(Some("\n".join(lines)), "K9")])[0], 1023)
        deep = ["K0 = E0"] + [f"K{k} = E{k} K{k - 1} Num" for k in range(1, 39)]
        self.assertEqual(written_value(least_value(Some("\n".join(deep)), "K38")).count("("), 37)


class Missing(unittest.TestCase):
    def test_nothing_is_missing(self):
        for function in (
            function_by("List", "x"), function_by("List", "Nil", "(Cons x t)"), function_by("List", "(Cons x t)", "y"),
            function_by("Truth Truth", "Yes Yes", "Yes No", "No x"), function_by("", ""), function_by("Num", "n"),
            function_by("List List", "Nil y", "(Cons x t) Nil", "(Cons x t) (Cons y u)"),
            function_by("Pair", "(Pair Nil x)", "(Pair (Cons a b) Yes)", "(Pair y No)"),
        ):
            self.assertIsNone(missing(LISTS, function))

    def test_what_is_missing(self):
        for function, values in (
            (function_by("List"), ["Nil"]), (function_by("Num"), ["0"]), (function_by(""), []),
            (function_by("List", "(Cons x t)"), ["Nil"]), (function_by("List", "Nil"), ["Cons 0 Nil"]),
            (function_by("List", "Nil", "(Cons x Nil)"), ["Cons 0 (Cons 0 Nil)"]),
            (function_by("Truth Truth", "Yes x", "x Yes"), ["No", "No"]),
            (function_by("Truth Truth", "No x"), ["Yes", "Yes"]),
            (function_by("List Truth", "Nil Yes"), ["Nil", "No"]),
            (function_by("Color", "Red", "Green"), ["Blue"]),
            (function_by("Num List Num", "n Nil m"), ["0", "Cons 0 Nil", "0"]),
            (function_by("Tree", "Leaf", "(Node Leaf Red Leaf)"), ["Node Leaf Blue Leaf"]),
            (function_by("Tree", "Leaf", "(Node a Red b)", "(Node Leaf c Leaf)"), ["Node Leaf Blue (Node Leaf Red Leaf)"]),
            (function_by("Tree", "Leaf", "(Node Leaf c b)"), ["Node (Node Leaf Red Leaf) Red Leaf"]),
        ):
            self.assertEqual(texts(missing(LISTS, function)), values)
        self.assertIs(missing(LISTS, function_by("List")).__class__, tuple)

    def test_cells_go_ahead_of_the_order_of_makers(self):
        some = Some("A = Big Num Num | Small")
        self.assertEqual(texts(missing(some, function_by("A"))), ["Small"])
        self.assertEqual(texts(missing(some, function_by("A A", "Small Small"))), ["Big 0 0", "Small"])
        self.assertEqual(texts(missing(some, function_by("A A", "Small Small", "(Big x y) b"))), ["Small", "Big 0 0"])

    def test_the_order_of_makers_is_compared_from_the_left(self):
        some = Some("A = A1 | A2\nP = P A A")
        self.assertEqual(texts(missing(some, function_by("A P", "A1 (P A1 x)"))), ["A1", "P A2 A1"])
        self.assertEqual(texts(missing(some, function_by("A P", "A1 (P A1 A1)"))), ["A1", "P A1 A2"])
        self.assertEqual(texts(missing(some, function_by("P A", "(P A1 x) A1", "(P x A1) A1"))), ["P A1 A1", "A2"])


class ComesTo(unittest.TestCase):
    def test_rows_that_count(self):
        function = function_by("List List", "Nil y", "x Nil", "(Cons x (Cons y z)) t", "x y")
        for index, values in enumerate((["Nil", "Nil"], ["Cons 0 Nil", "Nil"],
                                        ["Cons 0 (Cons 0 Nil)", "Cons 0 Nil"], ["Cons 0 Nil", "Cons 0 Nil"])):
            self.assertEqual(texts(comes_to(LISTS, function, index)), values)
        self.assertEqual(needless(LISTS, function), ())

    def test_needless_rows(self):
        function = function_by("Truth List", "Yes x", "Yes Nil", "No Nil", "x Nil", "x y", "No (Cons a b)", "x y")
        self.assertEqual(needless(LISTS, function), (1, 3, 5, 6))
        for index in (1, 3, 5, 6):
            self.assertIsNone(comes_to(LISTS, function, index))
        for index, values in ((0, ["Yes", "Nil"]), (2, ["No", "Nil"]), (4, ["No", "Cons 0 Nil"])):
            self.assertEqual(texts(comes_to(LISTS, function, index)), values)

    def test_rows_together_make_a_row_needless(self):
        function = function_by("Color", "Red", "Blue", "Green", "x")
        self.assertEqual(needless(LISTS, function), (3,))

    def test_without_places_and_without_rows(self):
        self.assertEqual(needless(LISTS, function_by("List")), ())
        self.assertEqual(comes_to(LISTS, function_by("", "", ""), 0), ())
        self.assertIsNone(comes_to(LISTS, function_by("", "", ""), 1))
        self.assertEqual(needless(LISTS, function_by("", "", "")), (1,))
        self.assertEqual(comes_to(LISTS, function_by("Num", "n"), 0), (0,))

    def test_no_such_row(self):
        function = function_by("List", "Nil", "x")
        for index in (-1, 2, 100, -2, True, False, None, "0", 0.0, (0,), [1], NIL, 10 ** 30):
            raises(self, BadNumber, {"what": "index", "number": index}, comes_to, LISTS, function, index)
        raises(self, BadNumber, {"what": "index", "number": 0}, comes_to, LISTS, function_by("List"), 0)


KINDS = (
    "Color = Red | Blue | Green\nList = Nil | Cons Color List\nPair = Pair Truth Color",
    "A = A1 A | A0 B | A2\nB = B1 A B | B0 Num Num | B2 Num",
    "T = N T T | L | M Num Num\nOne = One\nW = W One T | V Truth",
)


def some_pattern(rnd, program, kind, depth):
    makers = makers_by_kind(program).get(kind, ())
    if depth == 0 or not makers or rnd.random() < 0.35:
        return Place("x")
    maker = rnd.choice(makers)
    return Shape(maker.name, [some_pattern(rnd, program, place, depth - 1) for place in maker.places])


class ByTrying(unittest.TestCase):
    """The smallest tuples of many functions are compared with those that are found by trying all."""

    MOST = 8

    def compare(self, program, function, found, wanted):
        tried = smallest_by_trying(program, function.places, wanted, self.MOST)
        if tried is not None or (found is not None and key_of(program, found)[0] <= self.MOST):
            self.assertEqual(texts(found), texts(tried))
            return 1
        return 0

    def test_many_functions(self):
        compared = 0
        for seed in range(600):
            rnd = random.Random(seed)
            program = Some(rnd.choice(KINDS))
            kinds = [kind.name for kind in program.kinds] + ["Num"]
            places = [rnd.choice(kinds) for _ in range(rnd.randint(0, 3))]
            rows = [Row([some_pattern(rnd, program, place, 3) for place in places], Number(0))
                    for _ in range(rnd.randint(0, 5))]
            function = Function("f", places, "Num", rows)
            compared += self.compare(program, function, missing(program, function),
                                     lambda values: first_row(function, values) is None)
            for k in range(len(rows)):
                found = comes_to(program, function, k)
                compared += self.compare(program, function, found,
                                         lambda values: (first_row(function, values) or (None,))[0] == k)
                self.assertEqual(k in needless(program, function), found is None)
        self.assertGreater(compared, 800)


class AtTheLimits(unittest.TestCase):
    def test_many_shapes(self):
        makers = " | ".join([f"M{k} K K K K" for k in range(7)])
        program = Some(f"K = {makers} | Z")
        rows = []
        for k in range(12):
            row = ["x"] * 6
            for at in range(5):
                row[(k + at) % 6] = f"(M{(k * at) % 7} x x x x)"
            rows.append(" ".join(row))
        function = function_by("K K K K K K", *rows)
        self.assertEqual(texts(missing(program, function)), ["Z"] * 6)
        self.assertEqual(needless(program, function), ())
        whole = function_by("K K K K K K", *rows, "x x x x x x", "x x x x x Z")
        self.assertIsNone(missing(program, whole))
        self.assertEqual(needless(program, whole), (13,))

    def test_rows_that_go_apart_again_and_again(self):
        program = Some("Q = Q W W W W\nW = W B B B B\nB = B1 | B2")
        places = ["(W B1 a b c)", "(W a B1 b c)", "(W a b B1 c)", "(W a b c B1)"]
        rows = [f"(Q {one} a b c) (Q {one} a b c) (Q {one} a b c)" for one in places]
        rows += [f"(Q a {one} b c) (Q a {one} b c) (Q a {one} b c)" for one in places]
        found = missing(program, function_by("Q Q Q", *rows))
        self.assertEqual(texts(found)[:2], ["Q (W B1 B1 B1 B1) (W B1 B1 B1 B1) (W B1 B1 B1 B1) (W B1 B1 B1 B1)"] * 2)
        self.assertEqual(texts(found)[2],
                         "Q (W B2 B2 B2 B2) (W B2 B2 B2 B2) (W B1 B1 B1 B1) (W B1 B1 B1 B1)")

    def test_a_pattern_of_many_shapes(self):
        pattern = "x"
        for _ in range(60):
            pattern = f"(Cons x {pattern})"
        function = function_by("List", pattern)
        self.assertEqual(texts(missing(LISTS, function)), ["Nil"])
        self.assertEqual(comes_to(LISTS, function, 0), (chain(60, NIL, ahead=(0,)),))


if __name__ == "__main__":
    unittest.main()
