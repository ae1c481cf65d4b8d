"""[72] to [76]: cases, edits of them, and what is carried."""

import random
import unittest

from namedmeets.edits import (
    Case, alike_rows, carried, is_shared, with_line, with_new_line, with_part, without_line,
)
from namedmeets.errors import BadNumber, BadProgram, BadText, BadValue, NoName
from namedmeets.flat import Copy, Flat, FlatFunction, FlatRow, Leave
from namedmeets.flatrun import flat_plain
from namedmeets.flatten import flattened
from namedmeets.nets import Book, answer_of, done_all, net_of, started
from namedmeets.programs import Program
from namedmeets.states import is_state, whole_part
from namedmeets.trees import Applied, Number, Place
from namedmeets.values import value_from, written_value
from tests.helpers import raises
from tests.slowcases import carried_slowly, edited, some_cases
from tests.slownets import some_run
from tests.test_states import STRANGE

TEXT = """kind List = Nil | Cons Num List
kind Tree = Leaf | Node Tree Num Tree
; remark

fun append List List = List
append Nil y = y
append (Cons x t) y = Cons x (append t y)
fun sum Tree = Num
sum Leaf = 0
sum (Node l n r) = + (sum l) (+ n (sum r))
fun both List Tree = List
both l t = Cons (sum t) (append l l)"""
ONE, TWO = value_from("Cons 1 Nil"), value_from("Cons 1 (Cons 2 Nil)")
TREE = value_from("Node (Node Leaf 1 Leaf) 2 Leaf")
CASE = Case(TEXT, "append", [TWO, ONE])


def lines_of(text):
    return text.split("\n")[:-1]


class Cases(unittest.TestCase):
    def test_attributes(self):
        values = [TWO, ONE]
        case = Case(TEXT, "append", values)
        values.append(5)
        self.assertEqual((case.text, case.name, case.given), (TEXT, "append", (TWO, ONE)))
        self.assertIs(case.given.__class__, tuple)
        self.assertIsInstance(case.program, Program)
        self.assertIsInstance(case.book, Book)
        self.assertEqual(case.book.name, "append")
        self.assertEqual(case.book.given, (TWO, ONE))
        self.assertIs(case.book.flat.program, case.program)
        self.assertEqual(written_value(flat_plain(case.book.flat, "append", case.given, 99).value),
            "Cons 1 (Cons 2 (Cons 1 Nil))")
        self.assertEqual(Case(TEXT, "sum", (TREE,)).given, (TREE,))

    def test_equality(self):
        self.assertTrue(CASE == Case(TEXT, "append", (value_from("Cons 1 (Cons 2 Nil)"), value_from("Cons 1 Nil"))))
        self.assertFalse(CASE != Case(TEXT, "append", [TWO, ONE]))
        for other in (Case(TEXT + "\n", "append", [TWO, ONE]), Case(TEXT, "append", [ONE, TWO]),
                Case(TEXT, "both", [TWO, TREE]),
                      Case(TEXT.replace("remark", "Remark"), "append", [TWO, ONE]), None, 5, TEXT, CASE.book,
                      (TEXT, "append", (TWO, ONE))):
            self.assertFalse(CASE == other)
            self.assertTrue(CASE != other)
        text = "fun f Num = Num\nf n = n\nfun g Num = Num\ng n = n\n"
        self.assertFalse(Case(text, "f", [1]) == Case(text, "g", [1]))
        self.assertTrue(Case(text, "g", [1]) == Case(text, "g", (1,)))

    def test_errors_in_their_order(self):
        for text, fields in ((None, (0, 0)), (5, (0, 0)), ("x", (1, 1)), (TEXT + "\nboth (", (13, 7)),
                (TEXT + "\nsum Leaf = 0", (13, 1))):
            raises(self, BadText, {"line": fields[0], "column": fields[1]}, Case, text, "nope", None)
        raises(self, BadProgram, {"line": 9, "what": "missing"}, Case,
            TEXT.replace("fun append", "\nfun append").replace(
            "\nsum Leaf = 0", ""), "nope", [5])
        for name in ("nope", "", "Cons", None, 5, ["append"]):
            raises(self, NoName, {"name": name}, Case, TEXT, name, [5])
        for values in ([], [TWO], [TWO, ONE, ONE], None, 5):
            raises(self, BadValue, {"value": values, "why": "count"}, Case, TEXT, "append", values)
        for values, wrong in (([TWO, 5], 5), ([TREE, 5], TREE), ([TWO, TREE], TREE), ([TWO, None], None),
                ([True, TWO], True)):
            raises(self, BadValue, {"value": wrong, "why": "kind"}, Case, TEXT, "append", values)
        raises(self, NoName, {"name": "append"}, Case, "", "append", [])


class Parts(unittest.TestCase):
    def test_each_path(self):
        case = Case(TEXT, "both", [TWO, TREE])
        nil, leaf = value_from("Nil"), value_from("Leaf")
        for place, path, value, text in (
            (0, (), nil, "Nil"), (0, (0,), 7, "Cons 7 (Cons 2 Nil)"), (0, (1,), ONE, "Cons 1 (Cons 1 Nil)"),
            (0, (1, 0), -3, "Cons 1 (Cons -3 Nil)"), (0, (1, 1), TWO, "Cons 1 (Cons 2 (Cons 1 (Cons 2 Nil)))"),
            (1, (), leaf, "Leaf"), (1, (0,), leaf, "Node Leaf 2 Leaf"), (1, (1,), 0, "Node (Node Leaf 1 Leaf) 0 Leaf"),
            (1, (0, 0), TREE, "Node (Node (Node (Node Leaf 1 Leaf) 2 Leaf) 1 Leaf) 2 Leaf"),
            (1, (0, 1), 9, "Node (Node Leaf 9 Leaf) 2 Leaf"),
            (1, (0, 2), leaf, "Node (Node Leaf 1 Leaf) 2 Leaf"), (1, (2,), value_from("Node Leaf 0 Leaf"),
                                                               "Node (Node Leaf 1 Leaf) 2 (Node Leaf 0 Leaf)"),
        ):
            for way in (path, list(path)):
                new = with_part(case, place, way, value)
                self.assertIsInstance(new, Case)
                self.assertEqual(written_value(new.given[place]), text)
                self.assertTrue(new.given[1 - place] == case.given[1 - place])
                self.assertTrue(new == Case(TEXT, "both", new.given))
                self.assertEqual(new.book.given, new.given)
        self.assertEqual(case.given, (TWO, TREE))

    def test_parts_of_another_kind(self):
        case = Case(TEXT, "both", [TWO, TREE])
        for place, path, value, text in ((0, (), TREE, None), (0, (0,), ONE, "Cons (Cons 1 Nil) (Cons 2 Nil)"),
                (0, (1,), 5, "Cons 1 5"),
                                         (0, (1, 1), TREE, None), (1, (), TWO, None),
                                         (1, (1,), value_from("Leaf"), None)):
            with self.assertRaises(BadValue) as caught:
                with_part(case, place, path, value)
            self.assertEqual(caught.exception.why, "kind")
            if text is not None:
                self.assertEqual(written_value(caught.exception.value), text)
        raises(self, BadValue, {"value": None, "why": "kind"}, with_part, case, 0, (), None)
        raises(self, BadValue, {"value": True, "why": "kind"}, with_part, case, 1, (), True)

    def test_places_and_paths_that_are_not_there(self):
        case = Case(TEXT, "both", [TWO, TREE])
        for place in (2, -1, 99, True, False, None, "0", 0.0, (0,)):
            for path in ((), (5,), None):
                raises(self, BadNumber, {"what": "place", "number": place}, with_part, case, place, path, None)
        for path in ((2,), (-1,), (0, 0), (1, 1, 0), (1, 2), (1, 0, 0), (True,), (None,), ("0",), 0, None, "0",
                (0, None)):
            raises(self, BadNumber, {"what": "path", "number": path}, with_part, case, 0, path, 5)
        raises(self, BadNumber, {"what": "place", "number": 0}, with_part,
            Case(TEXT + "\nfun one = Num\none = 1", "one", []), 0, (), 5)


class Lines(unittest.TestCase):
    def test_exchanged(self):
        lines = TEXT.split("\n")
        for number, line in ((3, ""), (4, "; another"), (4, "fun one = Num"), (9, "sum Leaf = 5"),
                (12, "both l t = l"), (1, lines[0] + " ;"),
                             (9, "; nothing"), (6, "append x y = y")):
            new = lines[:number - 1] + [line] + lines[number:]
            text = "".join([one + "\n" for one in new])
            if number == 4 and line.startswith("fun"):
                raises(self, BadProgram, {"line": 4, "what": "rows"}, with_line, CASE, number, line)
            elif line == "; nothing":
                raises(self, BadProgram, {"line": 8, "what": "missing"}, with_line, CASE, number, line)
            else:
                self.assertTrue(with_line(CASE, number, line) == Case(text, "append", [TWO, ONE]))
        self.assertEqual(CASE.text, TEXT)

    def test_put_in(self):
        lines = TEXT.split("\n")
        for number in range(1, len(lines) + 2):
            for line in ("", "; remark", "  "):
                text = "".join([one + "\n" for one in lines[:number - 1] + [line] + lines[number - 1:]])
                self.assertEqual(with_new_line(CASE, number, line).text, text)
                self.assertTrue(with_new_line(CASE, number, line) == Case(text, "append", [TWO, ONE]))
        self.assertEqual(with_new_line(CASE, 1, "kind Color = Red").program.kinds[1].name, "Color")
        self.assertEqual(with_new_line(CASE, 13, "both l t = l").text, TEXT + "\nboth l t = l\n")
        raises(self, BadText, {"line": 13, "column": 1}, with_new_line, CASE, 13, "append Nil y = y")

    def test_taken_out(self):
        lines = TEXT.split("\n")
        for number in (3, 4):
            text = "".join([one + "\n" for one in lines[:number - 1] + lines[number:]])
            self.assertTrue(without_line(CASE, number) == Case(text, "append", [TWO, ONE]))
        for number, error, fields in (
            (1, BadProgram, {"line": 4, "what": "kind"}), (2, BadProgram, {"line": 7, "what": "kind"}),
            (5, BadText, {"line": 5, "column": 1}),
            (6, BadProgram, {"line": 5, "what": "missing"}), (7, BadProgram, {"line": 5, "what": "missing"}),
            (8, BadText, {"line": 8, "column": 1}), (12, BadProgram, {"line": 11, "what": "rows"}),
        ):
            raises(self, error, fields, without_line, CASE, number)
        # Both lines are needed: the function is not there any more, or its line is wrong.
        small = Case("fun one = Num\none = 1\nfun two = Num\ntwo = 2\n", "two", [])
        raises(self, BadText, {"line": 3, "column": 1}, without_line, small, 3)
        raises(self, BadProgram, {"line": 3, "what": "rows"}, without_line, small, 4)
        self.assertEqual(without_line(with_new_line(small, 5, ";"), 5).text, small.text)

    def test_texts_with_and_without_a_line_feed_at_the_end(self):
        with_end = Case(TEXT + "\n", "append", [TWO, ONE])
        more = Case(TEXT + "\n\n", "append", [TWO, ONE])
        self.assertEqual(with_line(CASE, 3, ";").text, with_line(with_end, 3, ";").text)
        self.assertEqual(with_new_line(CASE, 13, ";").text, TEXT + "\n;\n")
        self.assertEqual(with_new_line(with_end, 13, ";").text, TEXT + "\n;\n")
        self.assertEqual(with_new_line(more, 13, ";").text, TEXT + "\n;\n\n")
        self.assertEqual(with_new_line(more, 14, ";").text, TEXT + "\n\n;\n")
        self.assertEqual(with_line(more, 13, ";").text, TEXT + "\n;\n")
        self.assertEqual(without_line(more, 13).text, TEXT + "\n")
        self.assertEqual(with_line(CASE, 12, "both l t = l").text, with_line(with_end, 12, "both l t = l").text)
        for case in (CASE, with_end):
            raises(self, BadNumber, {"what": "line", "number": 13}, with_line, case, 13, ";")
            raises(self, BadNumber, {"what": "line", "number": 13}, without_line, case, 13)
            raises(self, BadNumber, {"what": "line", "number": 14}, with_new_line, case, 14, ";")

    def test_errors(self):
        for number in (0, -1, 14, 99, True, False, None, "1", 1.0, (1,)):
            for call, arguments in ((with_line, ("(",)), (with_new_line, ("(",)), (without_line, ())):
                raises(self, BadNumber, {"what": "line", "number": number}, call, CASE, number, *arguments)
        raises(self, BadText, {"line": 7, "column": 1}, with_line, CASE, 7, "both Nil")
        raises(self, BadText, {"line": 7, "column": 11}, with_line, CASE, 7, "append Nil")
        raises(self, BadText, {"line": 9, "column": 11}, with_line, CASE, 9, "sum Leaf =")
        raises(self, BadProgram, {"line": 9, "what": "kind"}, with_line, CASE, 9, "sum Leaf = Leaf")
        # The function of the case, then its values.
        raises(self, BadText, {"line": 6, "column": 1}, with_line, CASE, 5, "fun glue List List = List")
        case = Case("fun one = Num\none = 1\nfun two Num = Num\ntwo n = n", "two", [5])
        raises(self, BadText, {"line": 4, "column": 1}, with_line, case, 3, "fun three Num = Num")
        bare = Case("fun one = Num\none = 1\nfun two Num = Num\ntwo n = n", "one", [])
        raises(self, BadProgram, {"line": 2, "what": "places"}, with_line, bare, 1, "fun one Num = Num")
        text = "kind A = A\nkind B = B\nfun f A = Num\nf x = 1"
        raises(self, BadValue, {"value": value_from("A"), "why": "kind"}, with_line,
            Case(text, "f", [value_from("A")]), 3, "fun f B = Num")
        self.assertEqual(with_line(Case(text, "f", [value_from("A")]), 2, "kind B = B | C").text,
            text.replace("B = B", "B = B | C") + "\n")


def flat_with(rows, places=("List", "Num"), name="f"):
    """A flat program with one flat function."""
    program = Program("kind List = Nil | Cons Num List\n")
    return Flat(program, [FlatFunction(name, "f", places, "Num", rows)], [])


class AlikeRows(unittest.TestCase):
    def test_other_names(self):
        body = Copy(Place("a"), "b", "c", Leave(Place("n"), Applied("+",
            [Place("c"), Applied("*", [Place("b"), Number(3)])])))
        same = Copy(Place("n"), "c", "b", Leave(Place("a"), Applied("+",
            [Place("b"), Applied("*", [Place("c"), Number(3)])])))
        one, two = flat_with([FlatRow("Nil", ["a", "n"], body, [])]), flat_with([FlatRow("Nil", ["n", "a"], same,
            [("f", 3)])])
        for flat, other in ((one, two), (two, one), (one, one)):
            self.assertIs(alike_rows(flat, other, "f", "Nil"), True)
        unlike = [
            Copy(Place("a"), "b", "c", Leave(Place("n"), Applied("+",
                [Place("b"), Applied("*", [Place("c"), Number(3)])]))),
            Copy(Place("n"), "b", "c", Leave(Place("a"), Applied("+",
                [Place("c"), Applied("*", [Place("b"), Number(3)])]))),
            Copy(Place("a"), "b", "c", Leave(Place("n"), Applied("+",
                [Place("c"), Applied("*", [Place("b"), Number(4)])]))),
            Copy(Place("a"), "b", "c", Leave(Place("n"), Applied("+",
                [Place("c"), Applied("-", [Place("b"), Number(3)])]))),
            Leave(Place("n"), Copy(Place("a"), "b", "c", Applied("+",
                [Place("c"), Applied("*", [Place("b"), Number(3)])]))),
            Copy(Place("a"), "b", "c", Leave(Place("n"), Applied("+",
                [Applied("*", [Place("b"), Number(3)]), Place("c")]))),
            Leave(Place("a"), Leave(Place("n"), Number(3))), Leave(Place("a"), Place("n")),
            Applied("+", [Place("a"), Place("n")]),
        ]
        for other in unlike:
            three = flat_with([FlatRow("Nil", ["a", "n"], other, [])])
            self.assertIs(alike_rows(one, three, "f", "Nil"), False)
            self.assertIs(alike_rows(three, one, "f", "Nil"), False)
            self.assertIs(alike_rows(three, three, "f", "Nil"), True)
        # Names of two Copies.
        two_copies = [Copy(Place("a"), "b", "c", Copy(Place(k), "d", "e",
            Leave(Place(m), Leave(Place("d"), Leave(Place("n"), Place("e"))))))
                      for k, m in (("b", "c"), ("c", "b"))]
        flats = [flat_with([FlatRow("Nil", ["a", "n"], body, [])]) for body in two_copies]
        self.assertFalse(alike_rows(flats[0], flats[1], "f", "Nil"))

    def test_what_one_lacks(self):
        row = FlatRow("Nil", ["n"], Place("n"), [])
        one = flat_with([row])
        for other in (flat_with([row], name="g"), flat_with([FlatRow("Cons", ["n"], Place("n"), [])]), flat_with([]),
                      flat_with([row], ("List", "Num", "Num")), flat_with([row], ("List",)),
                      flat_with([FlatRow("Nil", ["n", "m"], Leave(Place("m"), Place("n")), [])]),
                      Flat(one.program, [], []),
                      flat_with([FlatRow("Nil", ["n", "m"], Place("n"), [])])):
            self.assertFalse(alike_rows(one, other, "f", "Nil"))
            self.assertFalse(alike_rows(other, one, "f", "Nil"))
        for name, maker in (("g", "Nil"), ("f", "Cons"), ("f", "Nope"), ("", "")):
            self.assertFalse(alike_rows(one, one, name, maker))
        # Kinds, origins and rows of the text are not looked at.
        self.assertTrue(alike_rows(one, flat_with([row], ("Tree", "List")), "f", "Nil"))

    def test_rows_of_programs(self):
        one = flattened(Program(TEXT))
        for old, new, told in (
            ("append (Cons x t) y = Cons x (append t y)", "append (Cons a b) c = Cons a (append b c)",
                (True, True, True)),
            ("append Nil y = y", "append Nil y = Cons 1 y", (False, True, True)),
            ("append (Cons x t) y = Cons x (append t y)", "append (Cons x t) y = append t (Cons x y)",
                (True, False, True)),
            ("append (Cons x t) y = Cons x (append t y)", "append (Cons x t) y = Cons x (append y t)",
                (True, False, True)),
            ("sum Leaf = 0", "sum Leaf = 1", (True, True, False)),
            ("fun sum", "fun more Num = Num\nmore n = n\nfun sum", (True, True, True)),
            ("; remark", "kind Color = Red", (True, True, True)),
        ):
            two = flattened(Program(TEXT.replace(old, new)))
            for flat, other in ((one, two), (two, one)):
                self.assertEqual((alike_rows(flat, other, "append", "Nil"), alike_rows(flat, other, "append", "Cons"),
                                  alike_rows(flat, other, "sum", "Leaf")), told)
        # A maker with more parts: the row has more names.
        more = TEXT.replace("Cons Num List", "Cons Num List Num").replace("(Cons x t)", "(Cons x t z)").replace(
            "Cons x (append t y)", "Cons x (append t y) z").replace("(append l l)", "(append l l) 0")
        two = flattened(Program(more))
        self.assertFalse(alike_rows(one, two, "append", "Cons"))
        self.assertTrue(alike_rows(one, two, "append", "Nil"))
        # A function with more places.
        wide = TEXT.replace("append List List", "append List List Num").replace("append Nil y",
            "append Nil y n").replace(
            "append (Cons x t) y = Cons x (append t y)", "append (Cons x t) y n = Cons x (append t y n)").replace(
            "(append l l)", "(append l l 1)")
        two = flattened(Program(wide))
        for maker in ("Nil", "Cons"):
            self.assertFalse(alike_rows(one, two, "append", maker))
            self.assertFalse(alike_rows(two, one, "append", maker))
        self.assertTrue(alike_rows(one, two, "sum", "Node"))


def whole(case):
    return done_all(case.book, started(case.book), 2000)[1]


class Carried(unittest.TestCase):
    def test_by_hand(self):
        first = Case(TEXT, "append", [TWO, ONE])
        lines = whole(first)
        self.assertEqual(lines, ("m:0.Cons", "m:0.Cons.1.Cons", "m:0.Cons.1.Cons.1.Nil"))
        for other, many in (
            (first, 3), (with_part(first, 1, (), TWO), 3), (with_part(first, 0, (0,), 9), 3),
            (with_part(first, 0, (1, 1), ONE), 2),
            (with_part(first, 0, (1,), value_from("Nil")), 1), (with_part(first, 0, (), value_from("Nil")), 0),
            (with_line(first, 6, "append Nil y = append y Nil"), 0),
            (with_line(first, 6, "append Nil y = Cons 5 y"), 2),
            (with_line(first, 7, "append (Cons x t) y = Cons x (append y t)"), 0),
            (with_line(first, 7, "append (Cons a b) c = Cons a (append b c)"), 3), (Case(TEXT, "both", [TWO, TREE]), 0),
            (Case(TEXT, "sum", [TREE]), 0),
        ):
            if other.text.find("append y Nil") >= 0:
                # A row that looks ahead makes other functions' rows alike still.
                self.assertEqual(carried(first.book, other.book, lines), lines[:2])
                continue
            told = carried(first.book, other.book, lines)
            self.assertEqual(told, lines[:many])
            self.assertIs(told.__class__, tuple)
            self.assertEqual(carried(first.book, other.book, list(lines) * 2 + ["x", "", "m:0.Nil", "m:9.A"]), told)
            self.assertEqual(carried(first.book, other.book, list(reversed(lines))), told)
            self.assertEqual(carried(other.book, first.book, lines), told)
        self.assertEqual(carried(first.book, first.book, []), ())
        self.assertEqual(carried(first.book, first.book, lines[1:]), ())
        self.assertEqual(carried(first.book, first.book, [lines[0], lines[2]]), lines[:1])

    def test_steps_and_copies(self):
        case = Case(TEXT, "both", [ONE, TREE])
        lines = whole(case)
        other = with_part(case, 1, (1,), 7)
        told = carried(case.book, other.book, lines)
        # What met the number 2, or what came of it, is not carried.
        self.assertEqual(told, tuple(sorted(carried_slowly(case.book, other.book, lines))))
        self.assertTrue(0 < len(told) < len(lines))
        # A copied list that is longer: the copies of its beginning are carried.
        other = with_part(case, 0, (1,), TWO)
        told = carried(case.book, other.book, lines)
        self.assertIn("m:0.Cons.2.#1", told)
        self.assertEqual([line for line in lines if line.endswith("Nil") and line in told], [])

    def test_makers_with_more_parts(self):
        # leave and copy cells, too, look at how many parts a maker has.
        text = "kind A = A | B Num\nkind P = P A A\nfun f A = Num\nf x = 1\nfun g A = P\ng x = P x x\n"
        for name, line in (("f", "m:0.A"), ("g", "m:0.A")):
            case = Case(text, name, [value_from("A")])
            other = Case(text.replace("B Num", "B Num Num"), name, [value_from("A")])
            self.assertEqual(carried(case.book, other.book, whole(case)), whole(case))
            self.assertEqual(len(whole(case)), 1)
        for name in ("f", "g"):
            case = Case(text, name, [value_from("B 1")])
            other = Case(text.replace("B Num", "B Num Num"), name, [value_from("B 1 2")])
            self.assertGreater(len(set(whole(case)) & set(whole(other))), 0)
            self.assertEqual(carried(case.book, other.book, whole(case)), ())

    def test_is_shared(self):
        first = Case(TEXT, "append", [TWO, ONE])
        other = with_part(first, 0, (1, 1), ONE)
        lines = whole(first)
        for words, told in ((lines[:2], True), (lines[:1], True), ((), True), (lines, False), (lines[1:2], False),
                (lines[:2] * 2, True),
                            (tuple(reversed(lines[:2])), True), (lines[:2] + ("x",), False), (("",), False),
                            ((lines[0], lines[2]), False)):
            self.assertIs(is_shared(first.book, other.book, words), told)
            self.assertIs(is_shared(first.book, other.book, list(words)), told)
            self.assertIs(is_shared(other.book, first.book, words), told)
        self.assertEqual(carried(first.book, other.book, STRANGE + list(lines)), lines[:2])
        self.assertIs(is_shared(first.book, other.book, [*lines[:2], ["x"]]), False)


class Facts(unittest.TestCase):
    def test_made_up_edits(self):
        some = ends = 0
        for rnd, case in some_cases(range(40)):
            other = edited(rnd, case)
            lines = some_run(case.book, rnd.randint(0, 99), 25)
            words = [line for line in lines if rnd.random() < 0.9] + ["m:0.Nope", "x"]
            told = carried(case.book, other.book, words)
            self.assertEqual(told, tuple(sorted(carried_slowly(case.book, other.book, words))))
            # (a), (e), (f)
            self.assertTrue(is_state(case.book, told) and is_state(other.book, told))
            self.assertEqual(told, carried(case.book, other.book, whole_part(case.book, words)))
            self.assertEqual(told, carried(other.book, case.book, told))
            self.assertTrue(is_shared(case.book, other.book, told) and is_shared(other.book, case.book, told))
            for line in whole_part(case.book, words):
                if line not in told:
                    self.assertFalse(is_shared(case.book, other.book, told + (line,)))
            labels = {cell.name: cell.label for cell in net_of(case.book, told).cells if "." in cell.name}
            there = {cell.name: cell.label for cell in net_of(other.book, told).cells if "." in cell.name}
            self.assertEqual(labels, there)
            some += 0 < len(told) < len(lines)
            # (d): the other run goes on from there to its value.
            came = flat_plain(other.book.flat, other.name, other.given, 300)
            if came is not None:
                net, more = done_all(other.book, net_of(other.book, told), 2000)
                self.assertEqual(len(more), came.count - len(told))
                self.assertTrue(answer_of(net) == came.value)
                ends += 1
        self.assertGreater(some, 30)
        self.assertGreater(ends, 40)

    def test_lines_taken_out_and_put_in_again(self):
        rnd = random.Random(1)
        lines = TEXT.split("\n")
        for _ in range(50):
            number = rnd.randint(1, len(lines))
            line = lines[number - 1]
            case = with_new_line(CASE, number, "; more")
            self.assertEqual(without_line(case, number).text, TEXT + "\n")
            self.assertEqual(with_line(case, number, ";").text.split("\n")[number], line)
            self.assertEqual(lines_of(case.text)[number - 1], "; more")


if __name__ == "__main__":
    unittest.main()
