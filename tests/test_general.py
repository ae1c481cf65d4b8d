"""[84] and [85]: what may be anything."""

import random
import unittest

from namedmeets.answers import hangs_on, needed
from namedmeets.errors import BadName, BadNumber, BadValue, NoName
from namedmeets.flatrun import flat_plain
from namedmeets.general import (
    Anything, changed, fits_pattern, general, idle_cells, pattern_text, places_from, value_place,
)
from namedmeets.nets import Book, answer_of, done_all, started
from namedmeets.values import Made, part_at, places_of, value_from, value_with
from namedmeets.ways import Story
from tests.helpers import chain, raises, some_value
from tests.slownets import some_books
from tests.test_causes import EXAMPLE, REV, SOME
from tests.test_demands import FUELS
from tests.test_flatrun import FLAT, PROGRAM
from tests.test_nets import book_of
from tests.test_states import STRANGE


def texts(book, place, fuel=500):
    return [pattern_text(one) for one in general(book, place, fuel)]


def kind_of_cell(book, index, place):
    """The kind of a cell of the values."""
    function = [one for one in book.flat.program.functions if one.name == book.name][0]
    kind, value = function.places[index], book.given[index]
    makers = {maker.name: maker for one in book.flat.program.kinds for maker in one.makers}
    for k in place:
        kind, value = makers[value.maker].places[k], value.parts[k]
    return kind


def name_of(index, place):
    return ":".join([f"a{index}"] + [str(k) for k in place])


def word_of(value):
    return value.maker if isinstance(value, Made) else f"#{value}"


def filled(rnd, program, pattern):
    """A value that comes from a pattern by values by chance."""
    if isinstance(pattern, Anything):
        return some_value(rnd, program, pattern.kind, 3)
    if isinstance(pattern, Made):
        return Made(pattern.maker, [filled(rnd, program, part) for part in pattern.parts])
    return pattern


class Patterns(unittest.TestCase):
    def test_anything(self):
        one = Anything("List")
        self.assertEqual(one.kind, "List")
        self.assertTrue(one == Anything("List"))
        self.assertFalse(one != Anything("List"))
        for other in (Anything("Num"), Anything("list"), None, 5, "List", Made("List", ()), EXAMPLE):
            self.assertFalse(one == other)
            self.assertTrue(one != other)
        pattern = Made("Cons", (one, Made("Cons", (3, Anything("Num")))))
        self.assertTrue(pattern == Made("Cons", (Anything("List"), Made("Cons", (3, Anything("Num"))))))
        self.assertFalse(pattern == Made("Cons", (Anything("List"), Made("Cons", (3, Anything("List"))))))

    def test_texts(self):
        for pattern, text in (
            (5, "5"), (-3, "-3"), (Anything("Num"), "_"), (Made("Nil", ()), "Nil"),
            (Made("Cons", (Anything("Num"), Anything("List"))), "Cons _ _"),
            (Made("Cons", (1, Made("Cons", (-2, Anything("List"))))), "Cons 1 (Cons -2 _)"),
            (Made("Node", (Made("Node", (Anything("Tree"),) * 3), Anything("Num"), Made("Leaf", ()))),
                "Node (Node _ _ _) _ Leaf"),
            (Made("P", (Made("Q", (Made("R", (Anything("P"),)),)), Anything("P"))), "P (Q (R _)) _"),
        ):
            self.assertEqual(pattern_text(pattern), text)
        deep = chain(2000, Anything("List"))
        self.assertEqual(pattern_text(deep), "Cons 1 (" * 1999 + "Cons 1 _" + ")" * 1999)

    def test_fits_pattern(self):
        cons = Made("Cons", (Anything("Num"), Anything("List")))
        for pattern, text, told in (
            (Anything("Num"), "5", True), (Anything("Num"), "Nil", False), (Anything("List"), "Nil", True),
            (Anything("List"), "Cons 1 Nil", True),
            (Anything("List"), "Cons Nil Nil", False), (Anything("List"), "Yes", False),
            (Anything("Truth"), "Yes", True), (5, "5", True),
            (5, "6", False), (5, "Nil", False), (value_from("Nil"), "Nil", True), (value_from("Nil"), "Yes", False),
            (value_from("Nil"), "0", False),
            (cons, "Cons 1 Nil", True), (cons, "Cons 9 (Cons 2 Nil)", True), (cons, "Nil", False),
            (cons, "Cons Nil Nil", False),
            (cons, "Cons 1 5", False), (cons, "Cons 1", False), (cons, "Cons 1 Nil Nil", False),
            (cons, "Pair 1 Nil", False),
            (Made("Cons", (1, Anything("List"))), "Cons 1 Nil", True),
            (Made("Cons", (1, Anything("List"))), "Cons 2 Nil", False),
            (Made("Cons", (1, Made("Cons", (2, Anything("List"))))), "Cons 1 (Cons 2 (Cons 3 Nil))", True),
            (Made("Cons", (1, Made("Cons", (2, Anything("List"))))), "Cons 1 Nil", False),
            (Made("Cons", (Anything("Num"), value_from("Nil"))), "Cons 5 Nil", True), (Anything("Nope"), "5", False),
        ):
            self.assertIs(fits_pattern(PROGRAM, pattern, value_from(text)), told, text)
        for value in STRANGE + [True, None]:
            for pattern in (1, 5, cons, Anything("List"), Anything("Num")):
                if value != 5 or isinstance(value, bool):
                    self.assertIs(fits_pattern(PROGRAM, pattern, value),
                        pattern == Anything("List") and value == value_from("Nil")
                                  or pattern == Anything("Num") and value == 5 and not isinstance(value, bool), value)
        self.assertTrue(fits_pattern(PROGRAM, chain(2000, Anything("List")), chain(2000, value_from("Cons 5 Nil"))))
        self.assertFalse(fits_pattern(PROGRAM, chain(2000, Anything("List")), chain(1999, value_from("Nil"))))


class General(unittest.TestCase):
    def test_by_hand(self):
        for book, place, told in (
            (EXAMPLE, (), ["Cons _ _", "_"]), (EXAMPLE, (0,), ["Cons 1 _", "_"]),
            (EXAMPLE, (1,), ["Cons _ Nil", "Cons _ _"]),
            (EXAMPLE, (1, 0), ["Cons _ Nil", "Cons 2 _"]), (EXAMPLE, (1, 1), ["Cons _ Nil", "Cons _ Nil"]),
            (book_of("five", flat=FLAT), (), []), (book_of("same", 7, flat=FLAT), (), ["7"]),
            (book_of("left", "Cons 1 Nil", "Nil", flat=FLAT), (), ["_", "Nil"]),
            (book_of("left", "Cons 1 Nil", "Cons 2 Nil", flat=FLAT), (1,), ["_", "Cons _ Nil"]),
            (book_of("len", "Cons 3 (Cons 4 Nil)", flat=FLAT), (), ["Cons _ (Cons _ Nil)"]),
            (REV.book, (0,), ["Cons _ (Cons 2 Nil)"]), (REV.book, (1, 0), ["Cons 1 (Cons _ Nil)"]),
            (REV.book, (1,), ["Cons _ (Cons _ Nil)"]),
            (book_of("both", "Cons 1 Nil", flat=FLAT), (), ["_"]), (book_of("both", "Cons 1 Nil", flat=FLAT), (0,),
                ["Cons _ _"]),
            (book_of("both", "Cons 1 Nil", flat=FLAT), (1, 0), ["Cons 1 _"]),
            (book_of("hidden", "No", flat=FLAT), (), ["_"]),
            (book_of("pick", "Nil", "Cons 1 Nil", flat=FLAT), (), ["Nil", "_"]), (SOME.book, (), ["4"]),
        ):
            self.assertEqual(texts(book, place), told)
            self.assertIs(general(book, list(place), 500).__class__, tuple)
        kinds = general(EXAMPLE, (), 9)
        self.assertTrue(kinds[0] == Made("Cons", (Anything("Num"), Anything("List"))))
        self.assertTrue(kinds[1] == Anything("List"))
        # In a run that goes on for ever beside, what stands is sure.
        self.assertEqual(texts(book_of("beside", "Yes"), ()), ["_"])

    def test_none_and_errors(self):
        self.assertIsNone(general(EXAMPLE, (1,), 1))
        self.assertIsNone(general(book_of("ever", "Yes"), (), 200))
        for place, k in (((2,), 0), ((0, 0), 1), ((1, 1, 0), 2)):
            raises(self, NoName, {"name": k}, general, EXAMPLE, place, 9)
        for fuel in FUELS:
            raises(self, BadNumber, {"what": "fuel", "number": fuel}, general, EXAMPLE, (9,), fuel)

    def test_cell_by_cell(self):
        cells = 0
        for seed, book in some_books(range(80)):
            came = flat_plain(book.flat, book.name, book.given, 100)
            if came is None:
                continue
            rnd = random.Random(seed)
            places = places_of(came.value)
            for place in rnd.sample(places, min(3, len(places))):
                told, hang = general(book, place, 100), hangs_on(book, place, 100)
                for index, value in enumerate(book.given):
                    for at in places_of(value):
                        names = [name_of(index, at[:k]) for k in range(len(at) + 1)]
                        one = part_at(told[index], at)
                        if names[-1] in hang:
                            # Fact (a): the cells above it are among them.
                            self.assertTrue(all([name in hang for name in names]))
                            self.assertEqual(word_of(one), word_of(part_at(value, at)))
                        elif all([name in hang for name in names[:-1]]):
                            self.assertTrue(one == Anything(kind_of_cell(book, index, at)))
                        else:
                            self.assertIsNone(one)
                        cells += 1
                    self.assertTrue(fits_pattern(book.flat.program, told[index], value))
        self.assertGreater(cells, 500)

    def test_other_values_that_fit(self):
        # Fact (b): the same lines are needed, and the same words stand at place and above.
        unlike = 0
        for seed, book in some_books(range(30)):
            came = flat_plain(book.flat, book.name, book.given, 100)
            if came is None or not book.given:
                continue
            rnd = random.Random(seed)
            for place in rnd.sample(places_of(came.value), 1):
                told, lines = general(book, place, 100), needed(book, place, 100)
                for _ in range(4):
                    values = [filled(rnd, book.flat.program, one) for one in told]
                    self.assertTrue(all([fits_pattern(book.flat.program, one, value) for one,
                        value in zip(told, values)]))
                    other = Book(book.flat, book.name, values)
                    self.assertEqual(needed(other, place, 100), lines)
                    there = flat_plain(book.flat, book.name, values, 500)
                    if there is not None:
                        for k in range(len(place) + 1):
                            self.assertEqual(word_of(part_at(there.value, place[:k])),
                                word_of(part_at(came.value, place[:k])))
                    unlike += other.given != book.given
        self.assertGreater(unlike, 50)

    def test_values_that_differ(self):
        # Fact (c): where a cell on which the part hangs is another one, a line or a word is another one.
        checked = 0
        for seed, book in some_books(range(90)):
            came = flat_plain(book.flat, book.name, book.given, 100)
            if came is None:
                continue
            rnd = random.Random(seed)
            for place in rnd.sample(places_of(came.value), 1):
                lines = needed(book, place, 100)
                for name in hangs_on(book, place, 100):
                    index, at = value_place(name)
                    part = some_value(rnd, book.flat.program, kind_of_cell(book, index, at), 2)
                    other = changed(book, name, part)
                    if word_of(part) == word_of(part_at(book.given[index], at)):
                        continue
                    try:
                        same = needed(other, place, 100) == lines
                        there = flat_plain(other.flat, other.name, other.given, 500)
                        words = [there is not None and word_of(part_at(there.value,
                            place[:k])) == word_of(part_at(came.value, place[:k]))
                                 for k in range(len(place) + 1)]
                        self.assertFalse(same and there is not None and all(words))
                    except NoName:
                        # The place is not there any more: a word above it is another one.
                        pass
                    checked += 1
        self.assertGreater(checked, 60)


class Names(unittest.TestCase):
    def test_value_place(self):
        for name, told in (("a0", (0, ())), ("a1:0:2", (1, (0, 2))), ("a12", (12, ())), ("a0:0", (0, (0,))),
                ("a10:10:0:7", (10, (10, 0, 7)))):
            self.assertEqual(value_place(name), told)
            self.assertIs(value_place(name)[1].__class__, tuple)
        for name in ("", "a", "a:", "a:0", "a0:", "a0::1", "a00", "a01", "a0:00", "a0:01", "a-1", "a-0", "a0:-1",
                "a+1", "ax", "a0:x", "a0.0", "a 0", "a0 ",
                     " a0", "a0: 1", "A0", "b0", "0", "m:0", "m:0.Cons.0", "a0\n", "a\u0661", "a0:\u00b2", "root",
                     "a0.#1.0", "aa0", "a0;"):
            raises(self, BadName, {"name": name}, value_place, name)
        for name in STRANGE:
            if name != SOME:
                with self.assertRaises(BadName) as caught:
                    value_place(name)
                self.assertIs(caught.exception.name, name)

    def test_each_cell_of_values(self):
        for _, book in some_books(range(10)):
            names = [cell.name for cell in started(book).cells if cell.name.startswith("a")]
            told = [value_place(name) for name in names]
            self.assertEqual(sorted(told),
                sorted([(k, place) for k, value in enumerate(book.given) for place in places_of(value)]))

    def test_changed(self):
        for name, part, values in (
            ("a0", "Nil", ["Nil", "Cons 2 Nil"]), ("a0:0", "9", ["Cons 9 Nil", "Cons 2 Nil"]),
            ("a0:1", "Cons 3 Nil", ["Cons 1 (Cons 3 Nil)", "Cons 2 Nil"]),
            ("a1:1", "Nil", ["Cons 1 Nil", "Cons 2 Nil"]), ("a1", "Cons 0 (Cons 0 Nil)",
                ["Cons 1 Nil", "Cons 0 (Cons 0 Nil)"]),
        ):
            book = changed(EXAMPLE, name, value_from(part))
            self.assertIsInstance(book, Book)
            self.assertIs(book.flat, EXAMPLE.flat)
            self.assertEqual((book.name, book.given), ("append", tuple([value_from(value) for value in values])))
        self.assertEqual(EXAMPLE.given, (value_from("Cons 1 Nil"), value_from("Cons 2 Nil")))

    def test_errors_of_changed(self):
        for name in ("", "a", "m:0", "a01", "a0:", None, 5, ["a0"]):
            raises(self, BadName, {"name": name}, changed, EXAMPLE, name, None)
        for name in ("a2", "a0:2", "a0:0:0", "a0:1:0", "a1:1:1", "a99", "a0:5:5"):
            raises(self, NoName, {"name": name}, changed, EXAMPLE, name, None)
        for name, part in (("a0", 5), ("a0:0", value_from("Nil")), ("a0:1", 7), ("a1", value_from("Yes")),
                ("a1:0", True), ("a0", None),
                           ("a0", value_from("Cons Nil Nil")), ("a0:0", "5"), ("a0", value_from("Cons 1"))):
            raises(self, BadValue, {"value": part, "why": "kind"}, changed, EXAMPLE, name, part)


class PlacesFrom(unittest.TestCase):
    def test_by_hand(self):
        for name, told in (
            ("a0", ((), (0,), (1,), (1, 0), (1, 1))), ("a0:0", ((0,),)), ("a0:1", ((1,), (1, 0), (1, 1))),
            ("a1", ((1,), (1, 0), (1, 1))),
            ("a1:0", ((1, 0),)), ("a1:1", ((1, 1),)),
        ):
            self.assertEqual(places_from(EXAMPLE, name, 2), told)
            self.assertIs(places_from(EXAMPLE, name, 2).__class__, tuple)
            for fuel in (0, 1):
                self.assertIsNone(places_from(EXAMPLE, name, fuel))
        self.assertEqual(idle_cells(EXAMPLE, 2), ())
        self.assertIsNone(idle_cells(EXAMPLE, 1))
        book = book_of("left", "Cons 1 Nil", "Cons 2 Nil", flat=FLAT)
        self.assertEqual(idle_cells(book, 3), ("a0", "a0:0", "a0:1"))
        self.assertIsNone(idle_cells(book, 2))
        self.assertEqual(places_from(book, "a0:1", 9), ())
        self.assertEqual(idle_cells(book_of("len", "Cons 3 (Cons 4 Nil)", flat=FLAT), 99), ("a0:0", "a0:1:0"))
        self.assertEqual(idle_cells(book_of("hidden", "No", flat=FLAT), 99), ("a0",))
        self.assertEqual(idle_cells(book_of("five", flat=FLAT), 0), ())
        self.assertEqual(places_from(book_of("same", 7, flat=FLAT), "a0", 0), ((),))
        self.assertIsNone(idle_cells(book_of("beside", "Yes"), 500))
        self.assertIsNone(places_from(book_of("beside", "Yes"), "a0", 500))

    def test_each_cell_of_made_up_runs(self):
        idle = cells = 0
        for seed, book in some_books(range(40)):
            came = flat_plain(book.flat, book.name, book.given, 120)
            if came is None:
                continue
            hang = {place: hangs_on(book, place, 120) for place in places_of(came.value)}
            names = [name_of(k, place) for k, value in enumerate(book.given) for place in places_of(value)]
            for name in names:
                told = tuple([place for place in places_of(came.value) if name in hang[place]])
                self.assertEqual(places_from(book, name, came.count), told)
                if came.count:
                    self.assertIsNone(places_from(book, name, came.count - 1))
                cells += 1
            free = tuple(sorted([name for name in names if not [place for place in hang if name in hang[place]]]))
            self.assertEqual(idle_cells(book, came.count), free)
            self.assertEqual(idle_cells(book, 100000), free)
            idle += len(free)
            # Fact (d): at an idle cell the value may be any other one.
            rnd = random.Random(seed)
            for name in free:
                index, place = value_place(name)
                other = changed(book, name, some_value(rnd, book.flat.program, kind_of_cell(book, index, place), 2))
                there = flat_plain(other.flat, other.name, other.given, 500)
                self.assertTrue(there is None or there.value == came.value)
        self.assertGreater(cells, 200)
        self.assertGreater(idle, 50)

    def test_errors(self):
        for name in ("a2", "a0:2", "a", "", "m:0", "root", "a00", None, 5, ["a0"], ("a0",)):
            raises(self, NoName, {"name": name}, places_from, EXAMPLE, name, 0)
            raises(self, NoName, {"name": name}, places_from, EXAMPLE, name, 99)
        for fuel in FUELS:
            for name in ("a0", "a9", None):
                raises(self, BadNumber, {"what": "fuel", "number": fuel}, places_from, EXAMPLE, name, fuel)
            raises(self, BadNumber, {"what": "fuel", "number": fuel}, idle_cells, EXAMPLE, fuel)

    def test_long_runs(self):
        value = chain(600, value_from("Nil"))
        book = Book(FLAT, "append", [value, value_from("Cons 5 Nil")])
        told = places_from(book, "a0" + ":1" * 300, 700)
        self.assertEqual(len(told), 2 * 301 + 1)
        self.assertEqual(places_from(book, "a0" + ":1" * 300 + ":0", 700), ((1,) * 300 + (0,),))
        self.assertEqual(idle_cells(book, 700), ())
        answer = answer_of(done_all(book, started(book), 700)[0])
        self.assertEqual(len(Story(book, needed(book, (1,) * 600, 700)).lines), 601)
        self.assertTrue(value_with(value, (1,) * 600, value_from("Cons 5 Nil")) == answer)


if __name__ == "__main__":
    unittest.main()
