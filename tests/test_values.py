"""[4], and [6] for the texts of values."""

import random
import unittest

from namedmeets.errors import BadText, NoName
from namedmeets.values import Made, part_at, places_of, size_of, value_from, value_with, written_value
from tests.helpers import chain, raises

NIL = Made("Nil", ())
DEEP = 2500


def some_value(rnd, depth):
    if depth == 0 or rnd.random() < 0.3:
        return rnd.choice([0, 1, -1, 7, -30, 10 ** 30, NIL, Made("Leaf", ())])
    return Made(rnd.choice(["Cons", "N2", "X_y"]), [some_value(rnd, depth - 1) for _ in range(rnd.randint(0, 3))])


def slow_places(value):
    places = [()]
    if isinstance(value, Made):
        for k, part in enumerate(value.parts):
            places.extend([(k,) + place for place in slow_places(part)])
    return places


class Likeness(unittest.TestCase):
    def test_alike(self):
        self.assertTrue(Made("A", ()) == Made("A", ()))
        self.assertTrue(Made("A", (1, Made("B", (2,)))) == Made("A", (1, Made("B", (2,)))))
        self.assertFalse(Made("A", (1,)) != Made("A", (1,)))

    def test_unlike_at_one_cell(self):
        one = Made("A", (1, Made("B", (2, Made("C", ())))))
        for other in (
            Made("Z", (1, Made("B", (2, Made("C", ()))))),
            Made("A", (0, Made("B", (2, Made("C", ()))))),
            Made("A", (1, Made("Z", (2, Made("C", ()))))),
            Made("A", (1, Made("B", (-2, Made("C", ()))))),
            Made("A", (1, Made("B", (2, Made("Z", ()))))),
            Made("A", (1, Made("B", (2, Made("C", (1,)))))),
            Made("A", (1, Made("B", (2, 3)))),
            Made("A", (1, Made("B", (Made("C", ()), 2)))),
            Made("A", (1,)),
            Made("A", (1, Made("B", (2, Made("C", ()))), 1)),
            Made("A", (Made("B", (2, Made("C", ()))), 1)),
        ):
            self.assertFalse(one == other)
            self.assertFalse(other == one)
            self.assertTrue(one != other)

    def test_equal_to_nothing_else(self):
        class Other:
            def __init__(self):
                self.maker = "A"
                self.parts = ()

        for other in (None, 0, 1, "A", (), [], ("A", ()), {}, Other(), True, 1.5, Made, object()):
            self.assertFalse(Made("A", ()) == other)
            self.assertFalse(other == Made("A", ()))
            self.assertTrue(Made("A", ()) != other)
        self.assertFalse(Made("A", (1,)) == Made("A", (True,)))
        self.assertFalse(Made("A", (0,)) == Made("A", (False,)))

    def test_deep_values(self):
        one = chain(DEEP, NIL)
        self.assertTrue(one == chain(DEEP, NIL))
        self.assertFalse(one == chain(DEEP, Made("Nul", ())))
        self.assertFalse(one == chain(DEEP, 0))
        self.assertFalse(one == chain(DEEP - 1, NIL))
        self.assertFalse(one == chain(DEEP + 1, NIL))
        self.assertTrue(chain(DEEP, 0, ahead=(), behind=(1,)) == chain(DEEP, 0, ahead=(), behind=(1,)))
        self.assertFalse(chain(DEEP, 0, ahead=(), behind=(1,)) == chain(DEEP, 1, ahead=(), behind=(1,)))

    def test_numbers_of_many_digits(self):
        big = 10 ** 700
        self.assertTrue(Made("A", (big,)) == Made("A", (10 ** 700,)))
        self.assertFalse(Made("A", (big,)) == Made("A", (big + 1,)))
        self.assertFalse(Made("A", (big,)) == Made("A", (-big,)))

    def test_parts_are_a_tuple_of_their_own(self):
        parts = [1, 2]
        value = Made("A", parts)
        parts.append(3)
        self.assertEqual(value.parts, (1, 2))
        self.assertIs(value.parts.__class__, tuple)
        self.assertEqual(value.maker, "A")


class Cells(unittest.TestCase):
    def test_size(self):
        self.assertEqual(size_of(0), 1)
        self.assertEqual(size_of(-10 ** 500), 1)
        self.assertEqual(size_of(NIL), 1)
        self.assertEqual(size_of(value_from("Cons 1 (Cons -2 Nil)")), 5)
        self.assertEqual(size_of(chain(DEEP, NIL)), 2 * DEEP + 1)
        same = Made("A", (1,))
        self.assertEqual(size_of(Made("P", (same, same))), 5)

    def test_places_in_order(self):
        self.assertEqual(places_of(5), ((),))
        self.assertEqual(places_of(NIL), ((),))
        self.assertEqual(
            places_of(value_from("A (B 1 (C 2)) 3 (D Nil)")),
            ((), (0,), (0, 0), (0, 1), (0, 1, 0), (1,), (2,), (2, 0)),
        )
        rnd = random.Random(4)
        for _ in range(50):
            value = some_value(rnd, 5)
            self.assertEqual(list(places_of(value)), slow_places(value))
            self.assertEqual(len(places_of(value)), size_of(value))
        for place in places_of(value_from("A (B 1)")):
            self.assertIs(place.__class__, tuple)

    def test_places_of_deep_values(self):
        places = places_of(chain(DEEP, NIL))
        self.assertEqual(len(places), 2 * DEEP + 1)
        self.assertEqual(places[:5], ((), (0,), (1,), (1, 0), (1, 1)))
        self.assertEqual(places[-1], (1,) * DEEP)

    def test_part_at(self):
        value = value_from("A (B 1 (C 2)) 3")
        self.assertIs(part_at(value, ()), value)
        self.assertEqual(part_at(value, (0,)), value_from("B 1 (C 2)"))
        self.assertEqual(part_at(value, (0, 1)), value_from("C 2"))
        self.assertEqual(part_at(value, [0, 1, 0]), 2)
        self.assertEqual(part_at(value, (1,)), 3)
        self.assertEqual(part_at(7, ()), 7)

    def test_part_at_no_cell(self):
        value = value_from("A (B 1 (C 2)) 3")
        for place in ((2,), (-1,), (0, 2), (0, -1), (1, 0), (0, 0, 0), (0, 1, 0, 0), (0, 1, 1), (5, 0), (10 ** 30,),
                      (True,), (False,), (None,), ("0",), (0.0,)):
            self.assertIsNone(part_at(value, place), place)
        self.assertIsNone(part_at(7, (0,)))
        self.assertIsNone(part_at(NIL, (0,)))

    def test_each_place_has_its_part(self):
        rnd = random.Random(5)
        for _ in range(50):
            value = some_value(rnd, 4)
            for place in places_of(value):
                part = part_at(value, place)
                self.assertIsNotNone(part)
                self.assertTrue(value_with(value, place, part) == value)
                new = value_with(value, place, Made("New", (1,)))
                self.assertEqual(part_at(new, place), Made("New", (1,)))
                self.assertEqual(size_of(new), size_of(value) - size_of(part) + 2)
                for other in places_of(value):
                    if other[:len(place)] != place and place[:len(other)] != other:
                        self.assertEqual(part_at(new, other), part_at(value, other))

    def test_value_with(self):
        value = value_from("A (B 1 (C 2)) 3")
        self.assertEqual(value_with(value, (), 5), 5)
        self.assertEqual(value_with(7, (), NIL), NIL)
        self.assertEqual(value_with(value, (0,), 5), value_from("A 5 3"))
        self.assertEqual(value_with(value, [0, 1], NIL), value_from("A (B 1 Nil) 3"))
        self.assertEqual(value_with(value, (0, 1, 0), NIL), value_from("A (B 1 (C Nil)) 3"))
        self.assertEqual(value_with(value, (1,), value), value_from("A (B 1 (C 2)) (A (B 1 (C 2)) 3)"))
        self.assertIs(value_with(value, (1,), 5).parts.__class__, tuple)

    def test_the_value_passed_stays(self):
        value = value_from("A (B 1 (C 2)) 3")
        inner = value.parts[0]
        value_with(value, (0, 1), NIL)
        self.assertEqual(value, value_from("A (B 1 (C 2)) 3"))
        self.assertIs(value.parts[0], inner)

    def test_value_with_at_no_cell(self):
        value = value_from("A (B 1 (C 2)) 3")
        for place in ((2,), (-1,), (0, 2), (0, -1), (1, 0), (0, 0, 0), (0, 1, 1), [0, 1, 0, 0], (True,), (None,)):
            raises(self, NoName, {"name": place}, value_with, value, place, 1)
        raises(self, NoName, {"name": (0,)}, value_with, 7, (0,), 1)
        for place in (None, 0, "0", "", value):
            raises(self, NoName, {"name": place}, value_with, value, place, 1)
        place = [0, 7]
        with self.assertRaises(NoName) as caught:
            value_with(value, place, 1)
        self.assertIs(caught.exception.name, place)
        self.assertEqual(value, value_from("A (B 1 (C 2)) 3"))

    def test_deep_places(self):
        value = chain(DEEP, NIL)
        self.assertEqual(part_at(value, (1,) * DEEP), NIL)
        self.assertEqual(part_at(value, (1,) * (DEEP - 1)), value_from("Cons 1 Nil"))
        self.assertIsNone(part_at(value, (1,) * (DEEP + 1)))
        self.assertEqual(value_with(value, (1,) * DEEP, 5), chain(DEEP, 5))
        raises(self, NoName, {"name": (1,) * (DEEP + 1)}, value_with, value, (1,) * (DEEP + 1), 5)


class Texts(unittest.TestCase):
    def test_written(self):
        for value, text in (
            (0, "0"), (-5, "-5"), (12, "12"), (NIL, "Nil"),
            (Made("Cons", (1, Made("Cons", (-2, NIL)))), "Cons 1 (Cons -2 Nil)"),
            (Made("N", (Made("N", (NIL, 0)), NIL, Made("S", (NIL,)))), "N (N Nil 0) Nil (S Nil)"),
            (Made("A", (Made("B", (Made("C", (1,)),)),)), "A (B (C 1))"),
            (10 ** 600, "1" + "0" * 600), (-10 ** 600, "-1" + "0" * 600),
        ):
            self.assertEqual(written_value(value), text)

    def test_writing_takes_any_string_as_maker(self):
        self.assertEqual(written_value(Made("(", (1, Made(")", (2,)), Made("a b", ())))), "( 1 () 2) a b")
        self.assertEqual(written_value(Made("", (1,))), " 1")

    def test_written_deep(self):
        self.assertEqual(written_value(chain(DEEP, NIL)), "Cons 1 (" * (DEEP - 1) + "Cons 1 Nil" + ")" * (DEEP - 1))

    def test_read(self):
        for text, value in (
            ("0", 0), ("-7", -7), ("(5)", 5), (" ( -5 ) ", -5), ("Nil", NIL), ("(Nil)", NIL), ("  Nil  ", NIL),
            ("Cons 1 Nil", Made("Cons", (1, NIL))), ("(Cons 1 Nil)", Made("Cons", (1, NIL))),
            ("Cons (1) (Nil)", Made("Cons", (1, NIL))), ("Cons(1)(Nil)", Made("Cons", (1, NIL))),
            ("A B C", Made("A", (Made("B", ()), Made("C", ())))), ("A (B C)", Made("A", (Made("B", (Made("C", ()),)),))),
            ("A ( B  ( C ) )D", Made("A", (Made("B", (Made("C", ()),)), Made("D", ())))),
            ("9" * 400, int("9" * 400)), ("-" + "9" * 400, -int("9" * 400)),
            ("A1_b", Made("A1_b", ())), ("A" * 24, Made("A" * 24, ())),
        ):
            read = value_from(text)
            self.assertTrue(read == value, text)
            self.assertEqual(read.__class__, value.__class__)

    def test_remarks(self):
        self.assertEqual(value_from("Nil;"), NIL)
        self.assertEqual(value_from("Nil ; Nil"), NIL)
        self.assertEqual(value_from("Cons 1 Nil;) ( ; x"), value_from("Cons 1 Nil"))

    def test_line_feeds(self):
        self.assertEqual(value_from("Nil;\nwhat ever ("), NIL)
        self.assertEqual(value_from("Nil ; \n\n"), NIL)
        raises(self, BadText, {"line": 1, "column": 1}, value_from, "Nil\n")
        raises(self, BadText, {"line": 1, "column": 6}, value_from, "Cons 1\n2")
        raises(self, BadText, {"line": 1, "column": 8}, value_from, "Cons 1 \n ; x")
        raises(self, BadText, {"line": 1, "column": 1}, value_from, "\nNil")
        raises(self, BadText, {"line": 1, "column": 1}, value_from, "\n")

    def test_reading_what_was_written(self):
        rnd = random.Random(6)
        for _ in range(200):
            value = some_value(rnd, 5)
            self.assertTrue(value_from(written_value(value)) == value)
        for value in (chain(DEEP, NIL), chain(DEEP, -3, ahead=(), behind=(NIL, 2)), 10 ** 399, -10 ** 400 + 1):
            self.assertTrue(value_from(written_value(value)) == value)
            self.assertTrue(value_from("(" + written_value(value) + ")") == value)

    def test_no_strings(self):
        for value in (None, 5, 0, True, ["Nil"], ("Nil",), b"Nil", NIL, 1.5, {}):
            raises(self, BadText, {"line": 0, "column": 0}, value_from, value)

    def test_words_that_cannot_stand(self):
        for text, column in (
            ("x", 1), (" x", 2), ("nil", 1), ("+", 1), ("_A", 1), ("01", 1), ("-0", 1), ("-", 1), ("A" * 25, 1),
            ("9" * 401, 1), ("(" + "9" * 401 + ")", 2), (")", 1), ("  )", 3), ("()", 2), ("( )", 3), ("((1))", 2),
            ("((Nil))", 2), ("( (Nil", 3), ("Cons ((1)) Nil", 7), ("Cons () Nil", 7), ("Cons x Nil", 6),
            ("Cons 1 nil", 8), ("Cons 1 = Nil", 8), ("Cons 1 Nil)", 11), ("Cons (A 1)) Nil", 11), ("Cons 00 Nil", 6),
            ("Cons (1 Nil) x", 9), ("Cons (x", 7), ("Cons (A x", 9), ("Cons\tNil", 1), ("Cons 1,Nil", 6),
            ("A let", 3), ("A \u00c4", 3), ("A | B", 3), ("A = B", 3),
        ):
            raises(self, BadText, {"line": 1, "column": column}, value_from, text)

    def test_a_word_too_many(self):
        for text, column in (
            ("1 2", 3), ("1 Nil", 3), ("1 (Nil)", 3), ("1 )", 3), ("(1) 2", 5), ("(1)(", 4), ("(Nil) Nil", 7),
            ("(Cons 1 Nil) )", 14), ("(Cons 1 Nil)1", 13), ("(1 2)", 4), ("(1 (2))", 4),
            ("(1 Nil)", 4), ("Cons (1 2) Nil", 9), ("Cons (1 (2)) Nil", 9), ("-1 x", 4),
        ):
            raises(self, BadText, {"line": 1, "column": column}, value_from, text)

    def test_a_word_missing_at_the_end(self):
        for text, column in (
            ("", 1), ("   ", 1), ("; x", 1), ("  ; Nil", 1), ("(", 2), ("  (  ", 4), ("(Nil", 5), ("(Nil  ", 5),
            ("(Nil ; )", 5), ("Cons (", 7), ("Cons (A 1", 10), ("Cons (A (B 1)", 14), ("Cons (A (B 1) ;))", 14),
            ("(1", 3), ("( 12 ", 5),
        ):
            raises(self, BadText, {"line": 1, "column": column}, value_from, text)

    def test_the_first_wrong_word_tells(self):
        raises(self, BadText, {"line": 1, "column": 8}, value_from, "Cons 1 x y (")
        raises(self, BadText, {"line": 1, "column": 7}, value_from, "(Nil 1")

    def test_deep_texts_that_are_wrong(self):
        text = "A (" * DEEP
        raises(self, BadText, {"line": 1, "column": len(text) + 1}, value_from, text)
        raises(self, BadText, {"line": 1, "column": len(text) + 1}, value_from, text + ")")
        raises(self, BadText, {"line": 1, "column": 2}, value_from, "(" * DEEP)


if __name__ == "__main__":
    unittest.main()
