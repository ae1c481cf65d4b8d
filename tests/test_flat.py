"""[19] to [21]: flat programs."""

import random
import unittest

from namedmeets.errors import NoName
from namedmeets.flat import (
    Copy, Flat, FlatFunction, FlatRow, Leave, Start, fault_of, flat_function, row_for, start_of,
)
from namedmeets.flatten import flattened
from namedmeets.programs import Program
from namedmeets.trees import Applied, Number, Place
from tests.helpers import raises, some_program

TEXT = """kind List = Nil | Cons Num List
kind Two = Two List Truth
fun f List Num = List
f Nil n = Nil
f (Cons x t) n = Cons n (f t n)
fun g Num = Truth
g n = < n n
fun h Two List = List
h (Two x Yes) y = f x 1
h (Two x No) y = y
"""
PROGRAM = Program(TEXT)


def x(name):
    return Place(name)


def call(name, *parts):
    return Applied(name, parts)


NIL = call("Nil")


def function_f(nil_names=("n",), nil_body=None, cons_names=("x", "t", "n"), cons_body=None, **more):
    """The flat function f, with other names or bodies if they are given."""
    nil_body = nil_body or Leave(x("n"), NIL)
    cons_body = cons_body or Leave(x("x"), Copy(x("n"), "a", "b", call("Cons", x("a"), call("f", x("t"), x("b")))))
    told = {"name": "f", "origin": "f", "places": ("List", "Num"), "result": "List",
            "rows": (FlatRow("Nil", nil_names, nil_body, ()), FlatRow("Cons", cons_names, cons_body, ()))}
    told.update(more)
    return FlatFunction(told["name"], told["origin"], told["places"], told["result"], told["rows"])


def starts(**more):
    """Starts of the three functions, with others in the place of those that are given."""
    told = {
        "f": Start("f", ("v", "w"), call("f", x("v"), x("w")), ()),
        "g": Start("g", ("n",), Copy(x("n"), "a", "b", call("<", x("a"), x("b"))), ()),
        "h": Start("h", ("v", "w"), Leave(x("v"), x("w")), ()),
    }
    told.update(more)
    return tuple(told.values())


class Objects(unittest.TestCase):
    def test_attributes(self):
        copy = Copy(x("p"), "a", "b", NIL)
        self.assertEqual((copy.part.name, copy.one, copy.two, copy.body), ("p", "a", "b", NIL))
        leave = Leave(x("p"), NIL)
        self.assertEqual((leave.part.name, leave.body), ("p", NIL))
        row = FlatRow("Nil", ("n",), NIL, (("f", 0),))
        self.assertEqual((row.maker, row.names, row.body, row.rows), ("Nil", ("n",), NIL, (("f", 0),)))
        function = FlatFunction("f/1", "f", ("List",), "Num", (row,))
        self.assertEqual((function.name, function.origin, function.places, function.result, function.rows),
                         ("f/1", "f", ("List",), "Num", (row,)))
        start = Start("f", ("n",), NIL, (("f", 0),))
        self.assertEqual((start.name, start.names, start.body, start.rows), ("f", ("n",), NIL, (("f", 0),)))
        flat = Flat(PROGRAM, (function,), (start,))
        self.assertIs(flat.program, PROGRAM)
        self.assertEqual((flat.functions, flat.starts), ((function,), (start,)))

    def test_lists_are_copied_to_tuples(self):
        names, rows = ["a"], [("f", 0)]
        row, start = FlatRow("M", names, NIL, rows), Start("f", names, NIL, rows)
        function = FlatFunction("f", "f", names, "A", rows)
        flat = Flat(PROGRAM, names, rows)
        names.append("b")
        rows.append(("f", 1))
        for told in (row.names, start.names, function.places, flat.functions):
            self.assertEqual(told, ("a",))
        for told in (row.rows, start.rows, function.rows, flat.starts):
            self.assertEqual(told, (("f", 0),))


class Named(unittest.TestCase):
    def test_what_there_is(self):
        flat = Flat(PROGRAM, (function_f(), function_f(name="f/1")), starts())
        self.assertIs(flat_function(flat, "f"), flat.functions[0])
        self.assertIs(flat_function(flat, "f/1"), flat.functions[1])
        names, body = start_of(flat, "g")
        self.assertEqual(names, ("n",))
        self.assertIs(body, flat.starts[1].body)
        self.assertIs(start_of(flat, "g").__class__, tuple)
        self.assertIs(row_for(flat.functions[0], "Cons"), flat.functions[0].rows[1])

    def test_names_that_nothing_has(self):
        flat = Flat(PROGRAM, (function_f(),), starts())
        for name in ("f/1", "", "F", "Cons", None, 5, ["f"], ("f",)):
            raises(self, NoName, {"name": name}, flat_function, flat, name)
            raises(self, NoName, {"name": name}, start_of, Flat(PROGRAM, (), ()), name)
        raises(self, NoName, {"name": "f/1"}, start_of, flat, "f/1")
        raises(self, NoName, {"name": "g"}, flat_function, flat, "g")
        for name in ("Yes", "", "nil", "f", None, 5, ["Nil"]):
            raises(self, NoName, {"name": name}, row_for, flat.functions[0], name)


class WhatAlwaysHolds(unittest.TestCase):
    def check(self, fault, function=None, **more):
        functions = (function_f() if function is None else function,)
        self.assertEqual(fault_of(Flat(PROGRAM, functions, starts(**more))), fault)

    def test_it_holds(self):
        self.check(None)
        self.assertIsNone(fault_of(Flat(Program(""), (), ())))
        self.check(None, function_f(name="f", origin=None))

    def test_what_flattened_tells(self):
        self.assertIsNone(fault_of(flattened(PROGRAM)))
        for seed in range(80):
            self.assertIsNone(fault_of(flattened(some_program(random.Random(seed), Program)[0])))

    def test_places_and_makers(self):
        row = function_f().rows
        self.check("f", function_f(places=()))
        self.check("f", function_f(places=("Num", "Num")))
        self.check("f", function_f(places=("Nope", "Num")))
        self.check("f", function_f(rows=()))
        self.check("f", function_f(rows=row[:1]))
        self.check("f", function_f(rows=(row[1], row[0])))
        self.check("f", function_f(rows=row + row[:1]))
        self.check("f", function_f(rows=row + (FlatRow("Yes", ("n",), Leave(x("n"), NIL), ()),)))
        self.check("f", function_f(rows=(row[0], FlatRow("Nil", row[1].names, row[1].body, ()))))

    def test_how_many_names(self):
        self.check("f", function_f(nil_names=(), nil_body=NIL))
        self.check("f", function_f(nil_names=("n", "m"), nil_body=Leave(x("n"), Leave(x("m"), NIL))))
        self.check("f", function_f(cons_names=("x", "t"), cons_body=Leave(x("x"), x("t"))))
        self.check("g", g=Start("g", (), call("Yes"), ()))
        self.check("g", g=Start("g", ("n", "m"), call("<", x("n"), x("m")), ()))

    def test_names_are_unlike(self):
        self.check("f", function_f(cons_names=("x", "x", "n"), cons_body=Leave(x("n"), call("Cons", x("x"), x("x")))))
        self.check("g", g=Start("g", ("n",), Copy(x("n"), "n", "b", call("<", x("n"), x("b"))), ()))
        self.check("g", g=Start("g", ("n",), Copy(x("n"), "a", "a", call("<", x("a"), x("a"))), ()))
        self.check("g", g=Start("g", ("n",), Copy(x("n"), "a", "b", Copy(x("a"), "b", "c", Leave(x("b"), call(
            "<", x("b"), x("c"))))), ()))
        self.check("h", h=Start("h", ("v", "v"), Leave(x("v"), x("v")), ()))
        # One name in two copies that stand side by side.
        self.check("h", h=Start("h", ("v", "w"), Leave(x("v"), Leave(
            Copy(x("w"), "a", "b", Leave(x("a"), x("b"))), Copy(NIL, "a", "b", Leave(x("a"), x("b"))))), ()))

    def test_names_stand_once(self):
        self.check("f", function_f(nil_body=NIL))
        self.check("f", function_f(nil_body=Leave(x("n"), Leave(x("n"), NIL))))
        self.check("f", function_f(nil_body=Leave(x("m"), NIL)))
        self.check("f", function_f(nil_body=Leave(x("n"), Leave(x("m"), NIL))))
        self.check("g", g=Start("g", ("n",), Copy(x("n"), "a", "b", call("<", x("a"), x("a"))), ()))
        self.check("g", g=Start("g", ("n",), Copy(x("n"), "a", "b", call("<", x("a"), Number(1))), ()))
        self.check("g", g=Start("g", ("n",), Copy(x("n"), "a", "b", Leave(x("b"), Leave(x("b"), call(
            "<", x("a"), Number(1))))), ()))
        self.check("h", h=Start("h", ("v", "w"), x("w"), ()))

    def test_names_of_copies_stand_in_their_bodies(self):
        self.check("g", g=Start("g", ("n",), call("<", x("a"), Copy(x("n"), "a", "b", x("b"))), ()))
        self.check("g", g=Start("g", ("n",), call("<", Copy(x("n"), "a", "b", x("b")), x("a")), ()))
        self.check("g", g=Start("g", ("n",), call("<", Copy(x("n"), "a", "b", x("a")), x("b")), ()))
        self.check("g", g=Start("g", ("n",), Copy(Leave(x("n"), x("a")), "a", "b", call("<", Number(1), x("b"))), ()))

    def test_names_of_applied(self):
        self.check("f", function_f(nil_body=Leave(x("n"), call("Nul"))))
        self.check("f", function_f(nil_body=Leave(x("n"), call("h", NIL))))
        self.check("f", function_f(nil_body=Leave(x("n"), call("f/1", NIL, Number(1)))))
        self.check("f", function_f(nil_body=Leave(call("%", x("n"), Number(1)), NIL)))
        self.check("f", function_f(nil_body=Leave(call("List"), Leave(x("n"), NIL))))
        self.check("f", function_f(nil_body=Leave(call("g", x("n")), NIL)))

    def test_how_many_parts(self):
        self.check("f", function_f(nil_body=call("Nil", x("n"))))
        self.check("f", function_f(nil_body=call("Cons", x("n"))))
        self.check("f", function_f(nil_body=call("Cons", x("n"), NIL, NIL)))
        self.check("f", function_f(nil_body=Leave(x("n"), call("f", NIL))))
        self.check("f", function_f(nil_body=call("f", NIL, x("n"), NIL)))
        self.check("f", function_f(nil_body=Leave(call("+", x("n")), NIL)))
        self.check("f", function_f(nil_body=Leave(call("<", x("n"), Number(1), Number(2)), NIL)))

    def test_kinds_of_parts(self):
        self.check(None, function_f(nil_body=call("f", NIL, x("n"))))
        self.check("f", function_f(nil_body=call("f", x("n"), NIL)))
        self.check("f", function_f(nil_body=call("Cons", NIL, Leave(x("n"), NIL))))
        self.check("f", function_f(nil_body=call("Cons", x("n"), call("Yes"))))
        self.check("f", function_f(nil_body=call("Cons", call("<", x("n"), Number(1)), NIL)))
        self.check("f", function_f(nil_body=Leave(call("+", x("n"), NIL), NIL)))
        self.check("f", function_f(nil_body=Leave(call("=", NIL, x("n")), NIL)))
        self.check("f", function_f(cons_body=call("Cons", x("x"), call("f", x("n"), x("t")))))
        self.check("f", function_f(cons_body=Leave(x("n"), Copy(x("t"), "a", "b", call(
            "Cons", x("a"), Leave(x("x"), x("b")))))))
        self.check(None, function_f(cons_body=Leave(x("n"), Copy(x("x"), "a", "b", call(
            "Cons", x("a"), Leave(x("b"), x("t")))))))
        self.check("f", function_f(cons_body=Leave(x("n"), Copy(Copy(x("t"), "a", "b", Leave(x("a"), x("b"))), "c", "d", call(
            "Cons", x("c"), Leave(x("x"), x("d")))))))

    def test_kinds_of_bodies(self):
        self.check("f", function_f(nil_body=x("n")))
        self.check("f", function_f(nil_body=Leave(x("n"), call("No"))))
        self.check("f", function_f(nil_body=Leave(NIL, x("n"))))
        self.check("f", function_f(nil_body=Copy(x("n"), "a", "b", Leave(x("a"), x("b")))))
        self.check("f", function_f(cons_body=Leave(x("t"), Leave(x("n"), x("x")))))
        self.check("g", g=Start("g", ("n",), x("n"), ()))
        self.check("g", g=Start("g", ("n",), call("+", x("n"), Number(1)), ()))
        self.check("h", h=Start("h", ("v", "w"), Leave(x("w"), x("v")), ()))
        self.check("f", function_f(result="Num"))

    def test_the_first_one_tells(self):
        wrong = Start("g", ("n",), x("n"), ())
        other = Start("h", ("v", "w"), x("v"), ())
        self.check("g", g=wrong, h=other)
        self.check("f", function_f(nil_body=x("n")), g=wrong)
        functions = (function_f(name="b", nil_body=x("n")), function_f(name="a", nil_body=x("n")), function_f())
        self.assertEqual(fault_of(Flat(PROGRAM, functions, starts())), "b")
        self.assertEqual(fault_of(Flat(PROGRAM, functions[1:], starts())), "a")
        self.assertEqual(fault_of(Flat(PROGRAM, functions[2:], starts(g=wrong))), "g")

    def test_origin_and_rows_are_not_looked_at(self):
        function = function_f(origin="nope", rows=[FlatRow(row.maker, row.names, row.body, (("no", 77),))
                                                   for row in function_f().rows])
        self.check(None, function, g=Start("g", ("n",), call("<", x("n"), Number(1)), (("x", -1),)))


if __name__ == "__main__":
    unittest.main()
