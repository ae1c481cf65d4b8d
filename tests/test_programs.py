"""[8] with [5] and [6]: the text of programs."""

import random
import unittest
from itertools import product

from namedmeets.errors import BadProgram, BadText, NoName
from namedmeets.programs import Program, function_named, kind_named, maker_named, written_program
from namedmeets.trees import Applied, Let, Number, Place, Shape
from namedmeets.values import Made, value_from
from namedmeets.words import is_big, is_number, is_small
from tests.grammars import first_wrong
from tests.helpers import raises, some_program

BASE = """kind List = Nil | Cons Num List
fun append List List = List
append Nil y = y
append (Cons x t) y = Cons x (append t y)
fun one = Num
one = 1
fun twice Num = Num
twice n = + n n
"""


def told(tree):
    """A pattern or body as a text that tells each form apart."""
    if isinstance(tree, Place):
        return tree.name
    if isinstance(tree, Number):
        return f"#{tree.number}"
    if isinstance(tree, Let):
        return f"{{{tree.name} = {told(tree.one)} in {told(tree.body)}}}"
    if isinstance(tree, Shape):
        return f"<{' '.join([tree.maker] + [told(one) for one in tree.parts])}>"
    if isinstance(tree, Applied):
        return f"[{' '.join([tree.name] + [told(one) for one in tree.parts])}]"
    raise TypeError(tree)


def body_of(text, places="Num Num", names="x y", result="Num"):
    """The body that a row with this text has."""
    program = Program(f"{BASE}fun f {places} = {result}\nf {names} = {text}")
    return told(program.functions[-1].rows[0].body)


def refused(test, text, line, column):
    raises(test, BadText, {"line": line, "column": column}, Program, text)


class Reading(unittest.TestCase):
    def test_kinds(self):
        program = Program("kind List = Nil | Cons Num List\nkind Unit = Unit\n"
                          "kind P = P P List | Q | R Truth Num List Unit")
        self.assertEqual(
            [(kind.name, [(maker.name, maker.places) for maker in kind.makers]) for kind in program.kinds],
            [("Truth", [("Yes", ()), ("No", ())]), ("List", [("Nil", ()), ("Cons", ("Num", "List"))]),
             ("Unit", [("Unit", ())]),
             ("P", [("P", ("P", "List")), ("Q", ()), ("R", ("Truth", "Num", "List", "Unit"))])])
        self.assertIs(program.kinds.__class__, tuple)
        self.assertIs(program.functions.__class__, tuple)
        self.assertEqual(program.functions, ())

    def test_functions(self):
        program = Program(BASE)
        self.assertEqual([(one.name, one.places, one.result, len(one.rows)) for one in program.functions],
                         [("append", ("List", "List"), "List", 2), ("one", (), "Num", 1), ("twice", ("Num",), "Num", 1)])
        rows = program.functions[0].rows
        self.assertEqual([told(one) for one in rows[0].patterns], ["<Nil>", "y"])
        self.assertEqual([told(one) for one in rows[1].patterns], ["<Cons x t>", "y"])
        self.assertEqual([told(row.body) for row in rows], ["y", "[Cons x [append t y]]"])
        self.assertEqual(program.functions[1].rows[0].patterns, ())
        self.assertEqual(told(program.functions[1].rows[0].body), "#1")
        self.assertEqual(told(program.functions[2].rows[0].body), "[+ n n]")

    def test_the_empty_text(self):
        for text in ("", "\n", "   \n\n", "; nothing", " ; a\n;b\n"):
            program = Program(text)
            self.assertEqual([kind.name for kind in program.kinds], ["Truth"])
            self.assertEqual(program.functions, ())
            self.assertEqual(written_program(program), "")

    def test_kind_lines_may_stand_between_rows(self):
        program = Program("fun f Color = Color\nf Red = Blue\nkind Color = Red | Blue\n\n ; x\nf x = x\nkind B = B")
        self.assertEqual(len(program.functions[0].rows), 2)
        self.assertEqual([kind.name for kind in program.kinds], ["Truth", "Color", "B"])

    def test_remarks_and_blanks(self):
        program = Program(" kind  L =  N  |  C Num L ;kind\n;\n\n fun f  L = Num;=\n"
                          "  f(C  x(N))= 1 ; 2\n f ( C x t )= 2;\n f N = 0")
        self.assertEqual([told(row.body) for row in program.functions[0].rows], ["#1", "#2", "#0"])
        self.assertEqual(told(program.functions[0].rows[0].patterns[0]), "<C x <N>>")

    def test_patterns(self):
        program = Program(BASE + "fun f List Truth List = Num\nf (Cons x (Cons y Nil)) (Yes) (Nil) = 1\nf a b c = 2")
        self.assertEqual([told(one) for one in program.functions[-1].rows[0].patterns],
                         ["<Cons x <Cons y <Nil>>>", "<Yes>", "<Nil>"])

    def test_numbers(self):
        self.assertEqual(body_of("5"), "#5")
        self.assertEqual(body_of("-5"), "#-5")
        self.assertEqual(body_of("0"), "#0")
        self.assertEqual(body_of("9" * 400), "#" + "9" * 400)
        self.assertEqual(body_of("-" + "9" * 400), "#-" + "9" * 400)

    def test_names_alone(self):
        self.assertEqual(body_of("x"), "x")
        self.assertEqual(body_of("one"), "[one]")
        self.assertEqual(body_of("+ one y"), "[+ [one] y]")
        self.assertEqual(body_of("Nil", result="List"), "[Nil]")
        self.assertEqual(body_of("Cons one Nil", result="List"), "[Cons [one] [Nil]]")

    def test_applied(self):
        self.assertEqual(body_of("twice x"), "[twice x]")
        self.assertEqual(body_of("twice (twice (twice 3))"), "[twice [twice [twice #3]]]")
        self.assertEqual(body_of("append Nil (Cons x (append Nil Nil))", result="List"),
                         "[append [Nil] [Cons x [append [Nil] [Nil]]]]")
        for sign in "+-*":
            self.assertEqual(body_of(f"{sign} x (twice y)"), f"[{sign} x [twice y]]")
        for sign in "<=":
            self.assertEqual(body_of(f"{sign} x -1", result="Truth"), f"[{sign} x #-1]")

    def test_parentheses(self):
        for text in ("(x)", "((x))", "( ( ( x ) ) )"):
            self.assertEqual(body_of(text), "x")
        self.assertEqual(body_of("twice ((5))"), "[twice #5]")
        self.assertEqual(body_of("((twice ((x))))"), "[twice x]")
        self.assertEqual(body_of("(let z = (((1))) in ((z)))"), "{z = #1 in z}")
        self.assertEqual(body_of("(" * 600 + "x" + ")" * 600), "x")
        self.assertEqual(body_of("twice(twice(one))"), "[twice [twice [one]]]")

    def test_lets(self):
        self.assertEqual(body_of("let z = 1 in z"), "{z = #1 in z}")
        self.assertEqual(body_of("let z = twice x in + z y"), "{z = [twice x] in [+ z y]}")
        self.assertEqual(body_of("let a = let b = 1 in b in a"), "{a = {b = #1 in b} in a}")
        self.assertEqual(body_of("let a = 1 in let b = a in + a b"), "{a = #1 in {b = a in [+ a b]}}")
        self.assertEqual(body_of("let a = let b = let c = 1 in c in b in let d = a in d"),
                         "{a = {b = {c = #1 in c} in b} in {d = a in d}}")
        self.assertEqual(body_of("+ (let a = 1 in a) (let b = x in b)"), "[+ {a = #1 in a} {b = x in b}]")
        self.assertEqual(body_of("let a = (let b = 1 in b) in (let c = a in c)"), "{a = {b = #1 in b} in {c = a in c}}")

    def test_small_names_are_bound_where_they_are(self):
        # one and twice are functions; a let or a pattern of that name goes ahead of them, where it is bound.
        self.assertEqual(body_of("let one = one in one"), "{one = [one] in one}")
        self.assertEqual(body_of("+ (let one = 5 in one) one"), "[+ {one = #5 in one} [one]]")
        self.assertEqual(body_of("+ one (let one = 5 in one)"), "[+ [one] {one = #5 in one}]")
        self.assertEqual(body_of("let a = let one = 1 in one in + one a"), "{a = {one = #1 in one} in [+ [one] a]}")
        self.assertEqual(body_of("let twice = twice 4 in twice"), "{twice = [twice #4] in twice}")
        self.assertEqual(body_of("+ one x", names="one x"), "[+ one x]")
        self.assertEqual(body_of("+ f x", names="f x"), "[+ f x]")

    def test_names_in_shapes_are_bound(self):
        program = Program(BASE + "fun f List = Num\nf (Cons one (Cons two t)) = + one two\nf x = one")
        self.assertEqual([told(row.body) for row in program.functions[-1].rows], ["[+ one two]", "[one]"])

    def test_deep_bodies(self):
        text = "x"
        for _ in range(120):
            text = f"twice ({text})"
        self.assertEqual(body_of(text).count("twice"), 120)
        text = "x"
        for k in range(120):
            text = f"let a{k} = 1 in {text}"
        self.assertEqual(body_of(text).count("in"), 120)

    def test_no_strings(self):
        for value in (None, 5, True, b"", ["kind A = B"], (), 1.5, Made("A", ())):
            raises(self, BadText, {"line": 0, "column": 0}, Program, value)


class Written(unittest.TestCase):
    def check(self, text, written):
        program = Program(text)
        self.assertEqual(written_program(program), written)
        self.assertEqual(written_program(Program(written)), written)

    def test_one_text(self):
        self.check(BASE, BASE)
        self.check("  fun  f  Num =  Num ; x\n\n f  n =(  (n) )\nkind K = K | M Num  ;",
                   "kind K = K | M Num\nfun f Num = Num\nf n = n\n")

    def test_truth_is_not_written(self):
        self.assertEqual(written_program(Program("")), "")
        self.assertNotIn("Truth", written_program(Program(BASE)))

    def test_kinds_go_ahead_of_functions(self):
        self.check("fun f = A\nf = B\nkind A = B\nfun g = Num\ng = 1\nkind C = D",
                   "kind A = B\nkind C = D\nfun f = A\nf = B\nfun g = Num\ng = 1\n")

    def test_parentheses(self):
        head = BASE + "fun f List Truth = Num\n"
        self.check(head + "f (Nil) (Yes) = (1)\nf ( Cons x (Nil) ) y = ((twice ((x))))\nf a b = (let z = ((1)) in (z))",
                   head + "f Nil Yes = 1\nf (Cons x Nil) y = twice x\nf a b = let z = 1 in z\n")
        self.check(head + "f a b = + (let z = (let y = 1 in y) in (twice z)) (twice (let v = 2 in v))",
                   head + "f a b = + (let z = let y = 1 in y in twice z) (twice (let v = 2 in v))\n")
        self.check(head + "f (Cons x (Cons y t)) b = - (one) (+ (x) -5)\nf a b = 0",
                   head + "f (Cons x (Cons y t)) b = - one (+ x -5)\nf a b = 0\n")

    def test_made_up_programs(self):
        for seed in range(60):
            program, _ = some_program(random.Random(seed), Program)
            text = written_program(program)
            again = Program(text)
            self.assertEqual(written_program(again), text)
            for one, other in zip(program.functions, again.functions):
                self.assertEqual([told(row.body) for row in one.rows], [told(row.body) for row in other.rows])
                self.assertEqual([[told(p) for p in row.patterns] for row in one.rows],
                                 [[told(p) for p in row.patterns] for row in other.rows])


class Named(unittest.TestCase):
    def test_what_there_is(self):
        program = Program(BASE)
        self.assertIs(kind_named(program, "List"), program.kinds[1])
        self.assertIs(kind_named(program, "Truth"), program.kinds[0])
        self.assertIs(function_named(program, "one"), program.functions[1])
        maker, kind = maker_named(program, "Cons")
        self.assertIs(maker, program.kinds[1].makers[1])
        self.assertEqual(kind, "List")
        self.assertEqual(maker_named(program, "No")[1], "Truth")
        self.assertEqual(maker_named(program, "No")[0].name, "No")
        self.assertIs(maker_named(program, "No").__class__, tuple)

    def test_a_kind_and_a_maker_of_one_name(self):
        program = Program("kind A = B | C\nkind B = A")
        self.assertIs(kind_named(program, "A"), program.kinds[1])
        self.assertEqual(maker_named(program, "A"), (program.kinds[2].makers[0], "B"))

    def test_names_that_nothing_has(self):
        program = Program(BASE)
        for call, names in (
            (kind_named, ("Num", "Nil", "list", "", "append")), (function_named, ("List", "Cons", "", "f", "+", "Append")),
            (maker_named, ("List", "Num", "Truth", "append", "", "nil", "+")),
        ):
            for name in names + (None, 5, True, ["List"], ("List",), value_from("Nil"), b"List"):
                raises(self, NoName, {"name": name}, call, program, name)


class Refused(unittest.TestCase):
    """[6]: where the text of a program is refused."""

    def test_the_line_counts_all_lines(self):
        refused(self, "x", 1, 1)
        refused(self, "\n\n  x", 3, 3)
        refused(self, "; a\n\nkind A = B\n x", 4, 2)
        refused(self, BASE + "x", 9, 1)

    def test_the_first_wrong_line_tells(self):
        refused(self, "kind A = B\nkind = C\nfun\nx", 2, 6)
        refused(self, "fun f = A\nf = )\nkind", 2, 5)
        refused(self, "fun f\nkind\n(", 1, 6)

    def test_wrong_lines_go_ahead_of_wrong_programs(self):
        refused(self, "kind A = B\nkind A = B\nfun f = Nope\nkind A", 4, 7)

    def test_first_words(self):
        for word in ("x", "Kind", "(", ")", "1", "=", "let", "in", "funs", "A", "kinds", "|"):
            refused(self, word, 1, 1)
            refused(self, f"{word} A = B", 1, 1)
            refused(self, f"kind A = B\n{word}", 2, 1)
        for word in ("append", "One", "1", "(", "x", "let", "in", "one1"):
            refused(self, f"fun append = Num\nappend = 1\nfun one = Num\n {word} = 1", 4, 2)

    def test_kind_lines(self):
        for line, column in (
            ("kind", 5), ("kind  ", 5), ("kind ; A", 5), ("kind a", 6), ("kind =", 6), ("kind (", 6), ("kind 1", 6),
            ("kind kind", 6), ("kind A", 7), ("kind A B", 8), ("kind A |", 8), ("kind A = ", 9), ("kind A =", 9),
            ("kind A = b", 10), ("kind A = |", 10), ("kind A = =", 10), ("kind A = (B)", 10), ("kind A = 1", 10),
            ("kind A = B b", 12), ("kind A = B = C", 12), ("kind A = B (C)", 12), ("kind A = B 1", 12),
            ("kind A = B |", 13), ("kind A = B | ; C", 13), ("kind A = B || C", 12), ("kind A = B | | C", 14),
            ("kind A = B | c", 14), ("kind A = B | C d", 16), ("kind A = B | C |", 17), ("kind A=B", 6),
            ("kind A = " + "B" * 25, 10), ("kind A = B C )", 14),
        ):
            refused(self, line, 1, column)

    def test_fun_lines(self):
        for line, column in (
            ("fun", 4), ("fun  ;", 4), ("fun A", 5), ("fun =", 5), ("fun let", 5), ("fun fun", 5), ("fun in", 5),
            ("fun kind", 5), ("fun (f)", 5), ("fun 1", 5), ("fun f", 6), ("fun f a", 7), ("fun f (A)", 7),
            ("fun f 1", 7), ("fun f A", 8), ("fun f A b", 9), ("fun f A | B", 9), ("fun f =", 8), ("fun f = a", 9),
            ("fun f = =", 9), ("fun f = (A)", 9), ("fun f = 1", 9), ("fun f = A B", 11), ("fun f = A = B", 11),
            ("fun f = A |", 11), ("fun f A =  ", 10), ("fun f A = B )", 13),
        ):
            refused(self, line, 1, column)

    def test_patterns(self):
        for line, column in (
            ("f", 2), ("f  ; =", 2), ("f x", 4), ("f x x", 6), ("f (", 4), ("f (A", 5), ("f (A x", 7), ("f (A x)", 8),
            ("f (A (B", 8), ("f (A (B)", 9), ("f 1", 3), ("f )", 3), ("f |", 3), ("f +", 3), ("f let", 3), ("f in", 3),
            ("f kind", 3), ("f x fun", 5), ("f ()", 4), ("f (x)", 4), ("f (x", 4), ("f ((A))", 4), ("f (1)", 4),
            ("f (=", 4), ("f (A 1)", 6), ("f (A =", 6), ("f (A x) )", 9), ("f (A (x))", 7), ("f (A ())", 7),
            ("f (A in)", 6), ("f x =", 6), ("f =", 4), ("f x = ; 1", 6),
        ):
            refused(self, "fun f = Num\n" + line, 2, column)

    def test_bodies(self):
        for body, column in (
            ("", 0), ("  ; 1", 0), (")", 1), ("=", 2), ("|", 1), ("in", 1), ("kind", 1), ("fun", 1), ("01", 1), ("-0", 1),
            ("A_-", 1), ("()", 2), ("(", 2), ("(1", 3), ("( 1 ", 4), ("((1)", 5), ("1)", 2), ("(1))", 4), ("(1 )  )", 7),
            ("1 2", 3), ("1 x", 3), ("1 (2)", 3), ("1 in", 3), ("1 +", 3), ("1 let", 3),
            ("x 1", 3), ("x x", 3), ("x (1)", 3), ("x in", 3), ("x =", 3), ("x Nil", 3), ("x )", 3),
            ("(1) 2", 5), ("(x) x", 5), ("(f) 1", 5), ("(Nil) (", 7), ("(f 1) x", 7), ("((f)) x", 7),
            ("f =", 3), ("f +", 3), ("f 1 let", 5), ("f in", 3), ("f kind", 3), ("f 1)", 4), ("f (", 4), ("f (1", 5),
            ("f () 1", 4), ("f (1 2)", 6), ("f (x 1)", 6), ("f ((1) 1)", 8), ("f (1) (", 8), ("f 01", 3), ("f |", 3),
            ("Nil =", 5), ("Nil let", 5), ("Nil in", 5), ("Cons 1 )", 8), ("Cons (Nil", 10),
            ("+", 2), ("+ 1", 4), ("+ 1 2 3", 7), ("+ 1 2 x", 7), ("+ 1 2 (3)", 7), ("+ 1 2)", 6), ("+ 1 2 in", 7),
            ("+ 1 )", 5), ("+ )", 3), ("+ in", 3), ("+ 1 in", 5), ("+ +", 3), ("+ = 1", 3), ("+ (+ 1) 2", 7),
            ("+ (+ 1 2", 9), ("(+ 1)", 5), ("< 1", 4), ("= 1 2 3", 7), ("* 1 let", 5), ("++ 1 2", 1), ("+1 2", 1),
            ("let", 4), ("let A", 5), ("let =", 5), ("let 1", 5), ("let (", 5), ("let let", 5), ("let in", 5),
            ("let a", 6), ("let a a", 7), ("let a 1", 7), ("let a in", 7), ("let a =", 8), ("let a = in", 9),
            ("let a = )", 9), ("let a = 1", 10), ("let a = 1 2", 11), ("let a = 1 )", 11), ("let a = 1 = 2", 11),
            ("let a = 1 in", 13), ("let a = 1 in )", 14), ("let a = 1 in in", 14), ("let a = 1 in 2 in", 16),
            ("let a = 1 in a a", 16), ("let a = 1 in 2 3", 16), ("let a = (1 in 2) in 3", 12),
            ("let a = let b = 1 in b", 23), ("let a = let b = 1 in b in", 26), ("let a = let b = 1 in b in a in a", 29),
            ("let a = 1 in let b = 2 in 3 in 4", 29), ("let a = let b = 1 in b )", 24), ("let a = + 1 in 2", 13),
            ("(let a = 1 in a", 16), ("(let a = 1)", 11), ("f let a = 1 in a", 3), ("f (let a = 1) 2", 13),
            ("(let a = 1 in 2 in 3)", 17), ("(let a = 1 in a) in 2", 18), ("(let a = 1 in a) a", 18),
            ("let a = (let b = 1 in b)", 25), ("let a = a 1 in a 1", 18), ("let x = x 1 in x", 11),
        ):
            if column:
                refused(self, f"fun f = Num\n\nf x = {body}", 3, column + 6)
            else:
                refused(self, f"fun f = Num\n\nf x = {body}", 3, 6)

    def test_blanks_and_remarks_behind(self):
        for behind in ("", " ", "    ", ";", " ; x )", "  ;"):
            refused(self, "fun f = Num\nf = (1" + behind, 2, 7)
            refused(self, "kind A =" + behind, 1, 9)
            refused(self, "fun f" + behind, 1, 6)


SORTS = {"*big": is_big, "*small": is_small, "*number": is_number}
SMALL = {"*free": lambda word: is_small(word) and word not in ("x", "l"), "*l": lambda word: word == "l",
         "*x": lambda word: word == "x"}
LINES = {
    "KIND": [["kind", "*big", "=", "MAKERS"]],
    "MAKERS": [["MAKER"], ["MAKER", "|", "MAKERS"]],
    "MAKER": [["*big", "BIGS"]],
    "BIGS": [[], ["*big", "BIGS"]],
    "FUN": [["fun", "*small", "BIGS", "=", "*big"]],
    "ROW": [["f", "PATTERNS", "=", "*number"]],
    "PATTERNS": [[], ["PATTERN", "PATTERNS"]],
    "PATTERN": [["*small"], ["*big"], ["(", "*big", "PATTERNS", ")"]],
}


def bodies():
    """The forms of bodies in which the small name x is bound; l is bound in the second bodies of its lets (B1)."""
    grammar = {"ROW": [["f", "x", "=", "B0"]]}
    for body, bound, free in (("B0", ["*x"], ["*free", "*l"]), ("B1", ["*x", "*l"], ["*free"])):
        atoms, atom = body + "ATOMS", body + "ATOM"
        grammar[body] = [["let", "*l", "=", body, "in", "B1"], ["let", "*x", "=", body, "in", body], ["*number"],
                         ["(", body, ")"], ["*big", atoms]]
        grammar[body] += [[name] for name in bound] + [[name, atoms] for name in free]
        grammar[body] += [[sign, atom, atom] for sign in "+-*<="]
        grammar[atoms] = [[], [atom, atoms]]
        grammar[atom] = [["*number"], ["*small"], ["*big"], ["(", body, ")"]]
    return grammar


class ByAllWays(unittest.TestCase):
    """Where lines go wrong is compared with what is found by following all ways at once."""

    def compare(self, grammar, start, words, ahead, line):
        sorts = {**SORTS, **SMALL}
        wrong = first_wrong(grammar, sorts, start, words)
        columns = [1]
        for word in words:
            columns.append(columns[-1] + len(word) + 1)
        # Behind the last word stands no blank.
        columns[-1] -= 1 if words else 0
        try:
            Program(ahead + " ".join(words))
        except BadProgram:
            self.assertIsNone(wrong, words)
        except BadText as error:
            self.assertEqual((error.line, error.column), (line, columns[wrong]), words)
        else:
            self.assertIsNone(wrong, words)

    def test_short_kind_and_fun_lines(self):
        for many in range(6):
            for words in product(["A", "a", "=", "|"], repeat=many):
                self.compare(LINES, "KIND", ["kind", *words], "", 1)
                self.compare(LINES, "FUN", ["fun", *words], "", 1)

    def test_short_patterns(self):
        for many in range(6):
            for words in product(["A", "a", "(", ")"], repeat=many):
                self.compare(LINES, "ROW", ["f", *words], "fun f = Num\n", 2)
                self.compare(LINES, "ROW", ["f", *words, "=", "1"], "fun f = Num\n", 2)

    def test_short_bodies(self):
        grammar = bodies()
        for many in range(5):
            for words in product(["A", "x", "g", "1", "+", "(", ")"], repeat=many):
                self.compare(grammar, "ROW", ["f", "x", "=", *words], "fun f = Num\n", 2)

    def test_long_bodies(self):
        grammar = bodies()
        rnd = random.Random(8)
        for _ in range(1500):
            words = []
            while rnd.random() < 0.95:
                words.extend(rnd.choice([["let", "l", "="], ["let", "x", "="], ["in"], ["l"], ["x"], ["g"], ["1"], ["A"],
                                         ["("], [")"], ["+"], ["in", "l"], [")", "1"]]))
                wrong = first_wrong(grammar, {**SORTS, **SMALL}, "ROW", ["f", "x", "=", *words])
                if wrong is not None and wrong < len(words) + 3:
                    if rnd.random() < 0.3:
                        break
                    # Most words that cannot stand there are taken away again, so that lines get long.
                    words = words[:wrong - 3]
            self.compare(grammar, "ROW", ["f", "x", "=", *words], "fun f = Num\n", 2)


if __name__ == "__main__":
    unittest.main()
