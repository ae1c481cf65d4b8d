"""[90] and [91]: promises and their witnesses."""

import unittest

from namedmeets.desk import Desk
from namedmeets.errors import BadNumber, BadText, NoName
from namedmeets.general import idle_cells
from namedmeets.keeping import outlives
from tests.grammars import first_wrong
from tests.helpers import raises
from tests.test_causes import EXAMPLE
from tests.test_files import HALL, LIST, RUN, is_small

MORE = """program q
kind List = Nil | Cons Num List
fun left List List = List
left a b = b
fun len List = Num
len Nil = 0
len (Cons x t) = + 1 (len t)
fun ever Truth = Num
ever Yes = ever Yes
ever No = 0
fun keep Num List Num Num Num Num Num Num Num Num Num = Num
keep a b c d e f g h i j k = + a k
fun down Num = Num
down n = less (= n 0) n
fun less Truth Num = Num
less Yes n = n
less No n = down (- n 1)
fun full Num = Num
full n = + 0 (+ 0 (down n))
fun over Num Truth = Num
over n t = + (+ (down n) 0) (ever t)
fun two_sums Num Num = Num
two_sums a b = + (+ a 3) (+ b 4)
run left on q left
Cons 1 Nil
Cons 2 Nil
run len on q len
Cons 7 (Cons 8 Nil)
run ever on q ever
Yes
run keep on q keep
1
Cons 2 Nil
0
0
0
0
0
0
0
0
5
run gives on q ever
No
run most on q full
332
run above on q over
332
No
"""
PLAYED = """hall two on r
begin a
begin b
work a 2 least
send a all
work b 1 least
run sum on q two_sums
1
2
hall sums on sum
begin a
begin b
work b 1 greatest
work b 1 greatest
hall none on r
hall fallen on r
begin a
begin b
begin c
work a 2 least
send a all
hand 0 b
hand 0 c
fall c 3
fall b 999
"""
TEXT = LIST + RUN + HALL + MORE + PLAYED
DESK = Desk(TEXT)
GRAMMAR = {"PROMISE": [["*A", "within", "*N"], ["*A", "spares", "*N"], ["*A", "answers", "*A"],
    ["*A", "holds", "*A", "*N"],
                       ["*A", "outlives", "*N", "*N"], ["*A", "double", "*N"], ["*A", "gives", "*V"]]}
SORTS = {"*A": is_small, "*N": lambda word: word.isdigit() and word.isascii() and str(int(word)) == word and len(word) <= 6,
         "*V": lambda word: False}


def column_of(promise):
    """The column at which a text that is no promise of a value is wrong, None if it is one."""
    words = promise.split(" ")
    wrong = first_wrong(GRAMMAR, SORTS, "PROMISE", words)
    if wrong is None:
        return None
    return len(promise) + 1 if wrong == len(words) else len(" ".join(words[:wrong])) + (1 if wrong == 0 else 2)


class Forms(unittest.TestCase):
    def refused(self, promise, column):
        for call in (DESK.holds, DESK.keep, Desk().holds):
            raises(self, BadText, {"line": 1, "column": column}, call, promise)

    def test_by_hand(self):
        for promise, column in (
            ("", 1), (" ", 1), ("r", 2), ("R", 1), ("r ", 3), ("r  within 5", 3), ("r gives", 8), ("r gives ", 9),
            ("r gives  ", 9), ("r gives (", 10),
            ("r gives 1 2", 11), ("r gives Cons (1", 16), ("r gives  Cons  x", 16), ("r gives 1 ;", None),
            ("r gives 01", 9), ("R gives 1", 1),
            ("r gives\n5", 3), ("r gives 5\n", 9), ("r gives 5 ;\n", None), ("r gives \n5", 9), ("r Gives 5", 3),
            ("r gives Nil )", 13),
            ("r gives Cons 1 Nil  ", None), ("r gives   (Cons 1 Nil)", None), (" r gives 5", 1), ("r gives ; 5", 9),
            ("r within", 9), ("r within ", 10), ("r within x", 10), ("r within 05", 10), ("r within 1000000", 10),
            ("r within -1", 10),
            ("r within 5 ", 12), ("r within  5", 10), ("r within 5 5", 12), ("r within 5\n", 10), ("r within\n5", 3),
            ("r within 999999", None),
            ("r spares", 9), ("r spares a", 10), ("r spares 0 1", 12), ("h answers", 10), ("h answers A", 11),
            ("h answers a b", 13),
            ("h answers a ", 13), ("h holds", 8), ("h holds a", 10), ("h holds 5", 9), ("h holds a b", 11),
            ("h holds a 1 2", 13), ("h outlives", 11),
            ("h outlives 1", 13), ("h outlives 1 x", 14), ("h outlives 1 2 3", 16), ("h double", 9),
            ("h double -0", 10), ("h double 0 0", 12),
            ("h double 1;", 10), ("kind within 5", 1), ("h hold a 5", 3), ("h (", 3), ("h holds a 00", 11),
            ("holds holds holds 5 ", 21),
            ("r gives " + "9" * 401, 9), ("h holds " + "a" * 25 + " 5", 9), ("5", 1), ("r within 5;", 10),
            ("r\twithin 5", 1),
        ):
            if column is None:
                self.assertIsInstance(DESK.holds(promise), tuple)
            else:
                self.refused(promise, column)

    def test_each_word_left_out_put_in_exchanged(self):
        wrong = right = 0
        for promise in ("r within 5", "r spares 0", "h answers a", "h holds a 1", "h outlives 1 1", "h double 0"):
            words = promise.split(" ")
            for k in range(len(words) + 1):
                for word in ("", "x", "a", "5", "within", "gives", "holds", "A", "007", "1000000", "kind", "-1",
                        "double", ";", "(", "5\n"):
                    for new in (words[:k] + [word] + words[k:], words[:k] + [word] + words[k + 1:],
                            words[:k] + words[k + 1:]):
                        text = " ".join(new)
                        if new[1:2] == ["gives"] and is_small(new[0]):
                            continue
                        column = column_of(text)
                        if column is not None:
                            raises(self, BadText, {"line": 1, "column": column}, DESK.holds, text)
                            wrong += 1
                        else:
                            right += 1
        self.assertGreater(wrong, 500)
        self.assertGreater(right, 30)

    def test_values_that_are_no_texts(self):
        for promise in (None, 5, True, ["r within 5"], b"r within 5", EXAMPLE):
            for call in (DESK.holds, DESK.keep, DESK.release):
                raises(self, BadText, {"line": 0, "column": 0}, call, promise)

    def test_names_and_arguments_that_are_not_there(self):
        for promise, name in (
            ("x within 5", "x"), ("h within 5", "h"), ("p within 5", "p"), ("x gives 5", "x"), ("h gives 5", "h"),
            ("p spares 0", "p"), ("h spares 99", "h"),
            ("r answers a", "r"), ("p answers a", "p"), ("x answers a", "x"), ("r holds a 1", "r"),
            ("r outlives 0 0", "r"), ("r double 0", "r"),
            ("h answers x", "x"), ("h answers h", "h"), ("h holds b 1", "b"), ("none holds a 0", "a"),
            ("none answers a", "a"),
        ):
            for call in (DESK.holds, DESK.keep):
                raises(self, NoName, {"name": name}, call, promise)
        for promise, number in (("r spares 2", 2), ("r spares 999999", 999999), ("len spares 1", 1),
                ("ever spares 1", 1)):
            for call in (DESK.holds, DESK.keep):
                raises(self, BadNumber, {"what": "argument", "number": number}, call, promise)
        self.assertEqual(DESK.promises(), ())


class Kept(unittest.TestCase):
    def check(self, promise, witness=None):
        """A promise that is kept, or that is not, with its witness."""
        told = DESK.holds(promise)
        self.assertEqual(told, (witness is None, witness), promise)
        self.assertIs(told.__class__, tuple)

    def test_gives(self):
        self.check("r gives Cons 1 (Cons 2 Nil)")
        self.check("r gives (Cons 1 (Cons 2 Nil)) ; so")
        for value in ("Nil", "5", "Cons 1 Nil", "Foo (Bar 1)", "Cons 1 (Cons 2 (Cons 3 Nil))", "Cons 2 (Cons 1 Nil)"):
            self.check(f"r gives {value}", "Cons 1 (Cons 2 Nil)")
        self.check("len gives 2")
        self.check("len gives 3", "2")
        self.check("gives gives 0")
        self.check("gives gives Nil", "0")

    def test_within(self):
        for many in (2, 3, 999999):
            self.check(f"r within {many}")
        for many in (0, 1):
            self.check(f"r within {many}", 2)
        self.check("len within 9")
        self.check("len within 8", 9)
        self.check("gives within 1")
        self.check("gives within 0", 1)

    def test_spares(self):
        self.check("left spares 0")
        self.check("left spares 1", ("a1", "a1:0", "a1:1"))
        self.check("r spares 0", ("a0", "a0:0", "a0:1"))
        self.check("len spares 0", ("a0", "a0:1", "a0:1:1"))
        self.check("gives spares 0", ("a0",))
        # Argument 1 is not argument 10.
        self.check("keep spares 1")
        self.check("keep spares 2")
        self.check("keep spares 0", ("a0",))
        self.check("keep spares 10", ("a10",))
        self.assertEqual(idle_cells(DESK.get_book("keep"), 99)[:3], ("a1", "a1:0", "a1:1"))

    def test_runs_that_come_to_no_value(self):
        for promise in ("ever gives 0", "ever within 999999", "ever spares 0", "above gives 0", "above within 999999",
                "above spares 0"):
            self.assertEqual(DESK.holds(promise), (False, None))
        # The fuel is 2,000.
        self.check("most within 1999", 2000)
        self.check("most within 2000")
        self.check("most gives 0")

    def test_answers(self):
        self.check("h answers a", "m:0.Cons.1.Nil")
        self.check("sums answers a", "m:1.#1")
        self.check("sums answers b", "m:1.#1")
        self.check("two answers a")
        self.check("two answers b", "m:0.Cons.1.Nil")
        self.check("fallen answers a")
        self.check("fallen answers b", "m:0.Cons")
        self.check("fallen answers c", "m:0.Cons.1.Nil")

    def test_holds(self):
        for name, many in (("a", 2), ("b", 0), ("c", 1)):
            for least in range(5):
                self.check(f"fallen holds {name} {least}", None if many >= least else many)
        self.check("two holds a 2")
        self.check("two holds b 2", 1)

    def test_outlives(self):
        hall = DESK.get_hall("fallen")
        self.assertEqual([len(outlives(hall, k)) for k in range(4)], [2, 1, 0, 0])
        for many, lines in ((0, 2), (1, 1), (2, 0), (3, 0), (999999, 0)):
            for least in range(4):
                self.check(f"fallen outlives {many} {least}", None if lines >= least else lines)
        self.check("none outlives 0 0")
        self.check("none outlives 0 1", 0)

    def test_double(self):
        self.check("two double 0", 1)
        self.check("two double 1")
        self.check("two double 2")
        self.check("h double 0")
        self.check("none double 0")

    def test_witnesses_on_the_desk(self):
        desk = Desk(TEXT)
        for promise in ("r within 2", "h answers a", "two double 0", "ever gives 0", "left spares 1", "r gives Nil"):
            desk.trial(lambda it, one=promise: it.keep(one))

        def keep_all(it):
            for promise in ("r within 2", "h answers a", "two double 0", "ever gives 0", "left spares 1",
                    "r gives Nil", "two double 1"):
                it.keep(promise)
            return it.broken()

        self.assertEqual(desk.trial(keep_all), (("h answers a", "m:0.Cons.1.Nil"), ("two double 0", 1),
            ("ever gives 0", None),
                                                ("left spares 1", ("a1", "a1:0", "a1:1")),
                                                ("r gives Nil", "Cons 1 (Cons 2 Nil)")))
        self.assertEqual(desk.promises(), ())
        self.assertEqual(desk.broken(), ())


if __name__ == "__main__":
    unittest.main()
