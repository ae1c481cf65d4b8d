"""[11]: what Program refuses once all lines are of the right form, and in which order."""

import unittest

from namedmeets.errors import BadProgram, BadText
from namedmeets.patterns import needless
from namedmeets.programs import Program
from tests.helpers import raises

KINDS = "kind List = Nil | Cons Num List\nkind Color = Red | Blue\nkind Two = Two List Color\n"


def refused(test, text, line, what):
    raises(test, BadProgram, {"line": line, "what": what}, Program, text)


def row_refused(test, places, rows, what, more="", result="Num"):
    """Checks the fault of the last one of some rows of a function that begins behind three kind lines."""
    text = f"{KINDS}fun f {places} = {result}\n" + "".join([f"f {row}\n" for row in rows]) + more
    refused(test, text, 4 + len(rows), what)


class Twice(unittest.TestCase):
    def test_kinds(self):
        refused(self, "kind A = B\nkind A = C", 2, "twice")
        refused(self, "kind A = B\n\n\nkind C = D\nkind A = E", 5, "twice")
        refused(self, "kind Num = A", 1, "twice")
        refused(self, "\nkind Truth = A", 2, "twice")

    def test_makers(self):
        refused(self, "kind A = B | B", 1, "twice")
        refused(self, "kind A = B | C | D | C Num", 1, "twice")
        refused(self, "kind A = B\nkind C = D | B", 2, "twice")
        refused(self, "kind A = Yes", 1, "twice")
        refused(self, "kind A = B | No", 1, "twice")

    def test_functions(self):
        refused(self, "fun f = Num\nf = 1\nfun f = Num\nf = 1", 3, "twice")
        refused(self, "fun f = Num\nf = 1\nfun g = Num\ng = 1\nfun f Num = Truth\nf x = Yes", 5, "twice")
        refused(self, "fun f = Num\nfun f = Num", 2, "twice")

    def test_kinds_and_makers_may_have_one_name(self):
        Program("kind A = A")
        Program("kind A = B | C\nkind B = A | D\nkind Yes = Num | Truth\nkind No = List Yes")

    def test_the_first_line_tells(self):
        refused(self, "kind A = B\nkind A = B\nkind Num = Yes", 2, "twice")
        refused(self, "fun f = Num\nfun f = Num\nkind A = A | A", 2, "twice")
        refused(self, "kind A = A | A\nfun f = Num\nfun f = Num", 1, "twice")


class UnknownKinds(unittest.TestCase):
    def test_places_of_makers(self):
        refused(self, "kind A = B | C D", 1, "kind")
        refused(self, "kind A = B\nkind C = D A B", 2, "kind")
        refused(self, "kind A = B | C Num Truth A List", 1, "kind")
        Program("kind A = B C\nkind C = D")

    def test_places_and_results_of_functions(self):
        refused(self, "kind A = B\nfun f B = Num\nf x = 1", 2, "kind")
        refused(self, "kind A = B\nfun f A Num Nope = Num\nf x y z = 1", 2, "kind")
        refused(self, "kind A = B\nfun f = B\nf = B", 2, "kind")
        Program("fun f A = A\nf x = x\nkind A = B")

    def test_the_first_line_tells(self):
        refused(self, "fun f A = Num\nkind B = C A", 1, "kind")
        refused(self, "kind B = C A\nfun f A = Num", 1, "kind")


class Empty(unittest.TestCase):
    def test_kinds_without_values(self):
        refused(self, "kind A = B A", 1, "empty")
        refused(self, "kind A = B\nkind C = D A C | E C", 2, "empty")
        refused(self, "kind A = B C\nkind C = D A", 1, "empty")
        refused(self, "kind X = Y\nkind A = B C\nkind C = D A", 2, "empty")
        refused(self, "kind A = B C\n\nkind C = D E\nkind E = F C", 1, "empty")
        refused(self, "kind C = D C | E Num C\nkind A = B C", 1, "empty")

    def test_kinds_with_values(self):
        Program("kind A = B A | C")
        Program("kind A = B C | D\nkind C = E A C | F A\nkind G = H C G | I Num Truth")


class Rows(unittest.TestCase):
    def test_no_row(self):
        refused(self, "fun f = Num", 1, "rows")
        refused(self, "fun f = Num\nf = 1\n\nfun g = Num\nfun h = Num\nh = 1", 4, "rows")
        refused(self, "fun f = Num\nkind A = B", 1, "rows")

    def test_too_few_and_too_many_patterns(self):
        row_refused(self, "List", ["x = 1", "= 1"], "places")
        row_refused(self, "List", ["x y = 1"], "places")
        row_refused(self, "", ["x = 1"], "places")
        row_refused(self, "List Color", ["x y = 1", "x = 1"], "places")
        row_refused(self, "List Color Num", ["x y z = 1", "x y z v = 1"], "places")

    def test_makers(self):
        row_refused(self, "List", ["Nul = 1"], "maker")
        row_refused(self, "List", ["Nil = 1", "(Cons x Nul) = 1"], "maker")
        row_refused(self, "List", ["List = 1"], "maker")
        row_refused(self, "Num", ["Num = 1"], "maker")

    def test_makers_of_other_kinds(self):
        row_refused(self, "List", ["Red = 1"], "kind")
        row_refused(self, "Num", ["Nil = 1"], "kind")
        row_refused(self, "List", ["(Cons Nil t) = 1"], "kind")
        row_refused(self, "List", ["(Cons x (Cons y Red)) = 1"], "kind")
        row_refused(self, "Two Truth", ["(Two Nil Red) Nil = 1"], "kind")
        row_refused(self, "Truth", ["Yes = 1", "No = 1", "Nil = 1"], "kind")

    def test_parts_of_shapes(self):
        row_refused(self, "List", ["Cons = 1"], "parts")
        row_refused(self, "List", ["(Cons x) = 1"], "parts")
        row_refused(self, "List", ["(Cons x t u) = 1"], "parts")
        row_refused(self, "List", ["(Nil x) = 1"], "parts")
        row_refused(self, "List", ["(Cons x (Nil y)) = 1"], "parts")
        row_refused(self, "Truth", ["(Yes x) = 1"], "parts")

    def test_shapes_from_left_to_right_outer_ones_first(self):
        for patterns, what in (
            ("Nul Nil", "maker"), ("Nil Nul", "maker"), ("Cons Nul", "parts"), ("Nul Cons", "maker"), ("Red Nul", "kind"),
            ("(Cons Nil (Nul)) Red", "kind"), ("(Cons Nul) Red", "parts"), ("(Cons Nul t) Nil", "maker"),
            ("(Two Nul) Red", "kind"), ("(Red Nul) Nul", "kind"), ("(Nul Red) Nil", "maker"),
            ("(Cons x (Cons y Nul)) (Cons Red)", "maker"), ("(Cons x (Nil y)) Nul", "parts"), ("Nil Cons", "kind"),
        ):
            row_refused(self, "List Color", [f"{patterns} = 1"], what)

    def test_names_twice(self):
        row_refused(self, "List List", ["x x = 1"], "twice")
        row_refused(self, "List", ["Nil = 1", "(Cons x x) = 1"], "twice")
        row_refused(self, "List List", ["(Cons x t) (Cons y t) = 1"], "twice")
        row_refused(self, "Num", ["x = let x = 1 in x"], "twice")
        row_refused(self, "Num", ["x = let y = let x = 1 in x in y"], "twice")
        row_refused(self, "Num", ["x = + (let y = 1 in y) (let y = 2 in y)"], "twice")
        row_refused(self, "Num", ["x = let y = let y = 1 in y in y"], "twice")
        row_refused(self, "Num", ["x = let y = 1 in let y = 2 in y"], "twice")
        Program("fun f Num = Num\nf x = let f = x in f\nfun g Num = Num\ng x = let y = x in y")

    def test_names_of_nothing(self):
        row_refused(self, "Num", ["x = y"], "name")
        row_refused(self, "Num", ["x = g x"], "name")
        row_refused(self, "Num", ["x = G x"], "name")
        row_refused(self, "Num", ["x = + 1 (- 2 (* y 1))"], "name")
        row_refused(self, "Num", ["x = let y = y in y"], "name")
        row_refused(self, "Num", ["x = + (let y = 1 in y) y"], "name")
        row_refused(self, "Num", ["x = Num"], "name")
        row_refused(self, "Num", ["x = List"], "name")
        Program("fun f Num = Num\nf x = g x\nfun g Num = Num\ng x = x")

    def test_parts_of_bodies(self):
        row_refused(self, "List", ["x = Cons"], "parts", result="List")
        row_refused(self, "List", ["x = Cons 1"], "parts", result="List")
        row_refused(self, "List", ["x = Cons 1 Nil Nil"], "parts", result="List")
        row_refused(self, "List", ["x = Nil x"], "parts", result="List")
        row_refused(self, "List", ["x = f"], "parts")
        row_refused(self, "List", ["x = f x x"], "parts")
        row_refused(self, "List", ["x = + 1 (f Nil (Cons 1))"], "parts")
        row_refused(self, "List", ["x = g 1"], "parts", "fun g = Num\ng = 1\n")

    def test_kinds_of_bodies(self):
        more = "fun g List Num = Truth\ng x y = Yes\n"
        for body in (
            "x", "Nil", "Yes", "< 1 2", "= 1 2", "g Nil 1", "Cons 1 Nil", "+ 1 Nil", "+ Nil 1", "+ x 1", "- Yes 1",
            "* 1 (< 1 2)", "f 1", "f Yes", "f (f x)", "let y = x in y", "let y = 1 in x", "let y = Nil in + 1 y",
            "let y = 1 in f y", "let y = (let z = x in z) in y", "let y = + 1 Yes in 5", "let y = < 1 2 in + 1 y",
            "f (Cons Nil Nil)", "f (Cons 1 2)", "f (Cons 1 (Cons 2 Red))", "let y = g Nil Nil in 1",
            "let y = g 1 1 in 1", "let y = = 1 Nil in 1", "let y = < Yes No in 1", "let y = Cons Nil Nil in 1",
        ):
            row_refused(self, "List", [f"x = {body}"], "kind", more)
        row_refused(self, "List", ["Nil = 1", "(Cons x t) = t"], "kind")
        row_refused(self, "List", ["Nil = 1", "(Cons x t) = f x"], "kind")
        row_refused(self, "Num", ["x = + 1 2"], "kind", result="Truth")
        row_refused(self, "Num", ["x = 5"], "kind", result="Truth")
        row_refused(self, "Num", ["x = < x x"], "kind", result="List")
        row_refused(self, "Num", ["x = Red"], "kind", result="List")

    def test_kinds_that_are_right(self):
        for body in (
            "let y = x in f y", "let y = let z = x in z in f y", "let y = < 1 2 in f x", "f (let y = 1 in Cons y x)",
            "+ (* 1 -2) (- 3 (f Nil))", "let a = g (= 1 2) in let b = g a in f Nil",
        ):
            Program(f"{KINDS}fun f List = Num\nf Nil = 1\nf x = {body}\nfun g Truth = Truth\ng x = x")


class Order(unittest.TestCase):
    def test_of_the_faults_of_a_row(self):
        faults = (
            ("places", "x y z", "1"), ("maker", "Nul z", "1"), ("twice", "z z", "1"), ("name", "x z", "nope"),
            ("parts", "x z", "f z"), ("kind", "x z", "z"),
        )
        # Patterns and a body that have a fault each.
        for patterns, body, what in (
            ("x x x", "1", "places"), ("Nul x x", "1", "places"), ("Nul Nul Nul", "nope", "places"),
            ("Nul x", "nope", "maker"), ("(Cons x x) Nul", "1", "maker"), ("(Cons x x) Nil", "nope 1", "kind"),
            ("(Cons x x) Cons", "nope", "kind"), ("(Cons x) x", "nope", "parts"),
            ("x x", "nope", "twice"), ("x x", "f x", "twice"), ("x x", "x", "twice"),
            ("x z", "+ (f x) nope", "name"), ("x z", "+ Nil nope", "name"), ("x z", "f (f x) (nope)", "name"),
            ("x z", "+ Nil (f x)", "parts"), ("x z", "f Nil Nil Nil", "parts"), ("x z", "f Red (Cons 1)", "parts"),
        ):
            row_refused(self, "List Color", [f"{patterns} = {body}"], what)
        for what, patterns, body in faults:
            row_refused(self, "List Color", ["Nil c = 1", f"{patterns} = {body}"], what)

    def test_of_rows_and_functions(self):
        refused(self, "fun f = Num\nf = Yes\nf x = 1\nfun g = Num", 2, "kind")
        refused(self, "fun f = Num\nf x = 1\nf = Yes\nfun g = Num", 2, "places")
        refused(self, "fun g = Num\nfun f = Num\nf = Yes", 1, "rows")
        refused(self, "fun f = Num\nf = 1\nf = h\nfun g = Num\ng x = 1", 3, "name")
        refused(self, "fun g = Num\ng x = 1\nfun f = Num\nf = 1\nf = h", 2, "places")

    # A text for each fault in the order of the list, each without the faults of the others.
    FAULTS = (
        ("twice", "kind Aa = Ab | Ab", 1),
        ("kind", "fun b Nope = Num\nb x = 1", 1),
        ("empty", "kind Ca = Cb Ca", 1),
        ("rows", "fun d = Num", 1),
        ("missing", "fun e Truth = Num\ne Yes = 1", 1),
        ("ring", "fun g = Num\ng = g", 1),
    )

    def test_two_faults_at_once(self):
        for k, (what, text, line) in enumerate(self.FAULTS):
            refused(self, text, line, what)
            for later, other, _ in self.FAULTS[k + 1:]:
                refused(self, text + "\n" + other, line, what)
                refused(self, other + "\n" + text, line + other.count("\n") + 1, what)

    def test_faults_of_rows_stand_between(self):
        for row, what in (("f = Yes", "kind"), ("f x = 1", "places"), ("f = nope", "name"), ("f = f 1", "parts")):
            text = "fun f = Num\n" + row
            for ahead, other, line in self.FAULTS[:3]:
                refused(self, text + "\n" + other, line + 2, ahead)
                refused(self, other + "\n" + text, line, ahead)
            for _, other, _ in self.FAULTS[4:]:
                refused(self, text + "\n" + other, 2, what)
                refused(self, other + "\n" + text, other.count("\n") + 3, what)


class Missing(unittest.TestCase):
    def test_some_values_are_fitted_by_no_row(self):
        refused(self, KINDS + "fun f List = Num\nf Nil = 1", 4, "missing")
        refused(self, KINDS + "fun f List = Num\nf Nil = 1\nf (Cons x Nil) = 1", 4, "missing")
        refused(self, KINDS + "fun f Truth Color = Num\nf Yes x = 1\nf x Red = 2", 4, "missing")
        refused(self, KINDS + "\nfun g = Num\ng = 1\nfun f Two = Num\nf (Two Nil x) = 1\nf (Two x Red) = 1", 7, "missing")

    def test_the_first_function_tells(self):
        text = "fun f Truth = Num\nf Yes = 1\nfun g Truth = Num\ng No = 1"
        refused(self, text, 1, "missing")
        refused(self, text.replace("f Yes", "f x"), 3, "missing")

    def test_no_values_are_missing(self):
        Program(KINDS + "fun f Two = Num\nf (Two Nil x) = 1\nf (Two x Red) = 1\nf (Two (Cons a b) Blue) = 3")

    def test_needless_rows_are_no_fault(self):
        program = Program(KINDS + "fun f List = Num\nf x = 1\nf Nil = 2\nfun g Color = Num\ng Red = 1\ng Blue = 2\ng x = 3")
        self.assertEqual(needless(program, program.functions[0]), (1,))
        self.assertEqual(needless(program, program.functions[1]), (2,))


class Rings(unittest.TestCase):
    def test_rings_of_untested_calls(self):
        refused(self, "fun f = Num\nf = f", 1, "ring")
        refused(self, "fun f Num = Num\nf x = + 1 (f x)", 1, "ring")
        refused(self, "fun f Num = Num\nf x = g x\nfun g Num = Num\ng x = f x", 1, "ring")
        refused(self, "fun a = Num\na = f 1\nfun f Num = Num\nf x = g x\nfun g Num = Num\ng x = let y = f x in 1", 3, "ring")
        refused(self, "fun f Num = Num\nf x = let y = + 1 (* (g x) 2) in y\nfun g Num = Num\ng x = h x\n"
                      "fun h Num = Num\nh x = k x\nfun k Num = Num\nk x = g 1", 3, "ring")

    def test_a_function_that_leads_to_a_ring_is_not_on_it(self):
        refused(self, "fun a = Num\na = b\nfun c = Num\nc = a\nfun b = Num\nb = b", 5, "ring")

    def test_rings_with_a_test(self):
        Program("fun f Truth = Num\nf Yes = f No\nf x = f x")
        Program("fun f Truth = Num\nf x = g x\nfun g Truth = Num\ng Yes = f No\ng No = f Yes")
        Program(KINDS + "fun f List = Num\nf x = g x\nfun g List = Num\ng x = h x 1\nfun h List Num = Num\n"
                        "h (Cons a b) n = f b\nh x n = n")
        Program("fun f Truth Truth = Num\nf x (Yes) = f x x\nf x y = f x x")

    def test_only_first_rows_of_functions_without_a_test_call(self):
        Program("fun f Truth = Num\nf x = 1\nf Yes = f No\nf x = f x")
        refused(self, "fun f Truth = Num\nf x = f x\nf Yes = 1\nf No = 2", 1, "ring")
        refused(self, "fun f Truth = Num\nf x = g x\nf Yes = 1\nfun g Truth = Num\ng x = f x", 1, "ring")

    def test_bound_names_are_no_calls(self):
        Program("fun f Num = Num\nf f = f")
        Program("fun f = Num\nf = let f = 1 in f")
        Program("fun f = Num\nf = 1\nfun g = Num\ng = let f = f in f")

    def test_calls_apart(self):
        Program("fun f = Num\nf = + g g\nfun g = Num\ng = + h h\nfun h = Num\nh = 1\nfun k = Num\nk = + f (+ g h)")


class Right(unittest.TestCase):
    def test_wrong_lines_go_ahead(self):
        raises(self, BadText, {"line": 3, "column": 6}, Program, "kind A = A | A\nkind Num = B\nkind x = 1")

    def test_limits_may_be_passed(self):
        kinds = "\n".join([f"kind K{k} = " + " | ".join([f"M{k}_{m} K{k} K{k} Num Truth Num" for m in range(9)]) + f" | E{k}"
                           for k in range(45)])
        functions = "\n".join([f"fun f{k} K1 K2 K3 K4 K5 K6 K7 = Num\n" + "\n".join([
            f"f{k} (M1_{m} x (M1_{m} a b c d e) c2 d2 e2) x1 E3 x4 x5 x6 x7 = {m}" for m in range(9)
        ]) + f"\nf{k} a b c d e f g = {k}" for k in range(65)])
        program = Program(kinds + "\n" + functions)
        self.assertEqual(len(program.functions), 65)


if __name__ == "__main__":
    unittest.main()
