"""[56] and [57]: what is sure, what is needed for a part of the answer, what it hangs on."""

import random
import unittest

from namedmeets.answers import Hole, fills, hangs_on, has_holes, needed, partial_at, sure
from namedmeets.errors import BadNumber, NoName
from namedmeets.flatrun import flat_plain
from namedmeets.flatten import flattened
from namedmeets.nets import Book, answer_of, done_all, met, net_of, ready, started
from namedmeets.programs import Program
from namedmeets.states import is_state
from namedmeets.values import Made, part_at, places_of, value_from, value_with
from tests.helpers import chain, raises, some_value
from tests.slownets import some_books, some_run
from tests.test_causes import SOME
from tests.test_flatrun import FLAT
from tests.test_nets import book_of

FUELS = (-1, True, False, None, "5", 1.0, [5])
NIL = value_from("Nil")
LISTS = "kind List = Nil | Cons Num List\nkind Two = Two List Num\n"


def made(maker, *parts):
    return Made(maker, parts)


def text_of(one):
    """The text of a partial value."""
    if isinstance(one, Hole):
        return f"<{one.worker}>"
    return f"({' '.join([one.maker] + [text_of(part) for part in one.parts])})" if isinstance(one, Made) else str(one)


class Holes(unittest.TestCase):
    def test_equal(self):
        self.assertEqual(Hole("m:0").worker, "m:0")
        self.assertTrue(Hole("m:0") == Hole("m:0"))
        self.assertFalse(Hole("m:0") != Hole("m:0"))
        for other in (Hole("m:1"), "m:0", None, 5, NIL, made("Hole", "m:0")):
            self.assertFalse(Hole("m:0") == other)
            self.assertTrue(Hole("m:0") != other)
        self.assertTrue(made("Cons", 1, Hole("m:0")) == made("Cons", 1, Hole("m:0")))
        self.assertFalse(made("Cons", 1, Hole("m:0")) == made("Cons", 1, Hole("m:1")))
        self.assertFalse(made("Cons", Hole("m:0"), NIL) == made("Cons", 1, NIL))

    def test_has_holes(self):
        hole = Hole("m:0")
        for one in (hole, made("Cons", 1, hole), made("Cons", hole, NIL), made("Cons", 1, made("Cons", 2, hole)),
                    chain(2000, hole)):
            self.assertIs(has_holes(one), True)
        for one in (0, -5, NIL, value_from("Cons 1 (Cons 2 Nil)"), chain(2000, NIL)):
            self.assertIs(has_holes(one), False)


class Fills(unittest.TestCase):
    def test_what_comes_from_what(self):
        hole, other = Hole("a"), Hole("b")
        cons = made("Cons", 1, hole)
        for one, two in (
            (hole, hole), (hole, other), (hole, 5), (hole, NIL), (hole, cons), (5, 5), (-5, -5), (NIL, made("Nil")),
            (cons, cons), (cons, made("Cons", 1, other)), (cons, made("Cons", 1, NIL)), (cons, made("Cons", 1, cons)),
            (made("Cons", hole, hole), made("Cons", 7, NIL)), (made("Cons", hole, other), made("Cons", other, hole)),
            (made("Cons", hole, hole), made("Cons", other, 5)), (0, 0), (chain(2000, hole), chain(2000, chain(9, NIL))),
        ):
            self.assertIs(fills(one, two), True)
        for one, two in (
            (5, hole), (NIL, hole), (cons, hole), (5, 6), (5, -5), (5, NIL), (NIL, 5), (NIL, made("Leaf")),
            (cons, made("Cons", hole, NIL)), (cons, made("Cons", 2, NIL)), (cons, made("Snoc", 1, NIL)), (cons, NIL),
            # Parts left out or doubled.
            (cons, made("Cons", 1)), (cons, made("Cons", 1, NIL, NIL)), (made("Cons", 1), cons), (made("Cons"), NIL),
            (made("Cons", hole), made("Cons", hole, hole)), (made("Cons", hole, 1), made("Cons", hole)),
            (made("Cons", 1, NIL), cons), (chain(2000, hole), chain(1999, 5)), (chain(2000, NIL), chain(2000, hole)),
        ):
            self.assertIs(fills(one, two), False)

    def test_no_integers(self):
        for one, two in ((1, True), (True, 1), (0, False), (1, "1"), ("1", "1"), (None, None)):
            self.assertIs(fills(one, two), False)


class PartialAt(unittest.TestCase):
    def test_places(self):
        hole = Hole("m:0")
        one = made("Two", made("Cons", 1, made("Cons", hole, hole)), 7)
        for place, told in (
            ([], one), ([1], 7), ([0, 0], 1), ([0], one.parts[0]), ([0, 1], one.parts[0].parts[1]), ([0, 1, 0], hole),
            ((0, 1, 1), hole), ([0, 1, 1, 0], None), ([0, 1, 0, 99, 3], None), ([0, 1, 0, 0, 0], None),
        ):
            self.assertTrue(partial_at(one, place) == told)
        self.assertTrue(partial_at(hole, []) == hole)
        self.assertIsNone(partial_at(hole, [5]))
        self.assertEqual(partial_at(5, ()), 5)
        self.assertTrue(partial_at(chain(2000, hole), [1] * 2000) == hole)
        self.assertIsNone(partial_at(chain(2000, hole), [1] * 2001))

    def test_places_that_are_none(self):
        one = made("Two", made("Cons", 1, made("Cons", Hole("m:0"), NIL)), 7)
        for place, behind in (([2], 0), ([2, 5], 0), ([1, 0], 1), ([0, 2], 1), ([0, 0, 0], 2), ([0, 1, 2, 0], 2),
                              ([0, 1, 1, 0], 3), ([0, 1, 1, 0, 1], 3), ([9], 0), ([1, 0, 0], 1)):
            raises(self, NoName, {"name": behind}, partial_at, one, place)
        raises(self, NoName, {"name": 0}, partial_at, 5, [0])
        raises(self, NoName, {"name": 0}, partial_at, NIL, [0])


class Sure(unittest.TestCase):
    def test_by_hand(self):
        book = book_of("append", "Cons 1 (Cons 2 Nil)", "Cons 3 Nil", flat=FLAT)
        net = started(book)
        texts = []
        while True:
            texts.append(text_of(sure(net)))
            if not ready(net):
                break
            net = met(book, net, ready(net)[0])
        self.assertEqual(texts, ["<m:0>", "(Cons 1 <m:0.Cons.1>)", "(Cons 1 (Cons 2 <m:0.Cons.1.Cons.1>))",
                                 "(Cons 1 (Cons 2 (Cons 3 (Nil))))"])
        book = book_of("copies", "Leaf")
        self.assertEqual(text_of(sure(started(book))), "(Two (Node <m:0> 5 <m:0>) <m:4>)")
        self.assertEqual(text_of(sure(net_of(book, ["m:4.#1"]))), "(Two (Node <m:0> 5 <m:0>) <m:4.#1.0>)")
        self.assertEqual(text_of(sure(started(book_of("same", -9, flat=FLAT)))), "-9")
        self.assertEqual(text_of(sure(started(book_of("some", 4)))), "<m:0>")

    def test_each_state_with_each_later_one(self):
        pairs = 0
        for seed, book in some_books(range(30)):
            lines = some_run(book, seed, 30)
            values = [sure(net_of(book, lines[:k])) for k in range(len(lines) + 1)]
            for k, one in enumerate(values):
                for later in values[k:]:
                    self.assertTrue(fills(one, later))
                    pairs += 1
            came = flat_plain(book.flat, book.name, book.given, 300)
            if came is not None:
                for one in values:
                    self.assertTrue(fills(one, came.value))
                    self.assertEqual(has_holes(one), not fills(came.value, one))
            end = answer_of(net_of(book, lines))
            if end is not None:
                self.assertTrue(values[-1] == end)
        self.assertGreater(pairs, 2000)

    def test_the_whole_value_while_workers_are_left(self):
        book = book_of("beside", "Yes")
        net = met(book, started(book), "m:1.Yes")
        self.assertEqual(sure(net), 8)
        self.assertFalse(has_holes(sure(net)))
        self.assertIsNone(answer_of(net))

    def test_deep(self):
        value = chain(1990, NIL)
        book = Book(FLAT, "append", [value, NIL])
        self.assertTrue(sure(started(book)) == Hole("m:0"))
        book = Book(FLAT, "append", [NIL, value])
        self.assertTrue(sure(net_of(book, ["m:0.Nil"])) == value)


class Needed(unittest.TestCase):
    def test_the_example(self):
        # The example behind [57].
        book = Book(flattened(Program(LISTS + "fun id List = List\nid x = x")), "id", [value_from("Cons 1 Nil")])
        for place, told in (((), ("a0",)), ((0,), ("a0", "a0:0")), ((1,), ("a0", "a0:1"))):
            self.assertEqual(needed(book, place, 0), ())
            self.assertEqual(hangs_on(book, place, 0), told)
            self.assertIs(hangs_on(book, list(place), 5).__class__, tuple)

    def test_by_hand(self):
        book = book_of("append", "Cons 1 (Cons 2 Nil)", "Cons 3 Nil", flat=FLAT)
        first, second = "m:0.Cons", "m:0.Cons.1.Cons"
        third = "m:0.Cons.1.Cons.1.Nil"
        for place, lines, cells in (
            ((), (first,), ("a0",)), ((0,), (first,), ("a0", "a0:0")), ((1,), (first, second), ("a0", "a0:1")),
            ((1, 0), (first, second), ("a0", "a0:1", "a0:1:0")),
            ((1, 1), (first, second, third), ("a0", "a0:1", "a0:1:1", "a1")),
            ((1, 1, 0), (first, second, third), ("a0", "a0:1", "a0:1:1", "a1", "a1:0")),
            ((1, 1, 1), (first, second, third), ("a0", "a0:1", "a0:1:1", "a1", "a1:1")),
        ):
            for fuel in (len(lines), len(lines) + 1, 500):
                self.assertEqual(needed(book, place, fuel), lines)
                self.assertEqual(hangs_on(book, list(place), fuel), cells)
            for fuel in range(len(lines)):
                self.assertIsNone(needed(book, place, fuel))
                self.assertIsNone(hangs_on(book, place, fuel))

    def test_places_that_are_none(self):
        book = book_of("append", "Cons 1 (Cons 2 Nil)", "Cons 3 Nil", flat=FLAT)
        for place, behind, many in (([2], 0, 1), ([0, 0], 1, 1), ([0, 5, 5], 1, 1), ([1, 2], 1, 2), ([1, 0, 1], 2, 2),
                                    ([1, 1, 1, 0], 3, 3), ([1, 1, 1, 1, 1], 3, 3), ([1, 1, 7], 2, 3)):
            for call in (needed, hangs_on):
                for fuel in (many, many + 1, 100):
                    raises(self, NoName, {"name": behind}, call, book, place, fuel)
                for fuel in range(many):
                    self.assertIsNone(call(book, place, fuel))

    def test_fuel(self):
        for fuel in FUELS:
            for place in ([], [5, 5]):
                raises(self, BadNumber, {"what": "fuel", "number": fuel}, needed, SOME.book, place, fuel)
                raises(self, BadNumber, {"what": "fuel", "number": fuel}, hangs_on, SOME.book, place, fuel)

    def test_runs_that_go_on_for_ever(self):
        book = book_of("grow", 3)
        first = needed(book, [], 500)
        many = len(first)
        for k in range(1, 6):
            told = needed(book, [1] * k, 500)
            self.assertGreater(len(told), many)
            self.assertTrue(all([line in told for line in first]))
            first, many = told, len(told)
        self.assertEqual(hangs_on(book, [], 500), ("a0",))
        book = book_of("ever", "Yes")
        for fuel in (0, 1, 500):
            self.assertIsNone(needed(book, [], fuel))
            self.assertIsNone(hangs_on(book, [0], fuel))
        book = book_of("beside", "Yes")
        self.assertEqual((needed(book, [], 0), hangs_on(book, [], 0)), ((), ()))
        raises(self, NoName, {"name": 0}, needed, book, [0], 0)

    def test_each_place_of_answers(self):
        # needed has just those lines without which nothing stands at the place; it is a state; hangs_on by its words.
        places = 0
        for seed, book in some_books(range(50)):
            lines = some_run(book, seed, 24)
            if len(lines) > 23:
                continue
            net = net_of(book, lines)
            value = answer_of(net)
            rnd = random.Random(seed)
            told = places_of(value)
            for place in rnd.sample(told, min(4, len(told))):
                least = needed(book, place, len(lines))
                self.assertTrue(is_state(book, least))
                self.assertEqual(needed(book, place, len(least)), least)
                if least:
                    self.assertIsNone(needed(book, place, len(least) - 1))
                    self.assertIsNone(hangs_on(book, place, len(least) - 1))
                self.assertTrue(self.stands(book, least, place))
                for line in least:
                    others = self.without(book, lines, line)
                    self.assertFalse(self.stands(book, others, place))
                self.assertEqual(hangs_on(book, place, len(least)), self.slow_hangs_on(book, least, place))
                part = part_at(value, place)
                raises(self, NoName, {"name": len(place)}, needed, book,
                       list(place) + [len(part.parts) if isinstance(part, Made) else 0], len(lines))
                places += 1
        self.assertGreater(places, 100)

    def stands(self, book, lines, place):
        """Whether a number or maker stands at a place of the answer behind a state."""
        part = partial_at(sure(net_of(book, lines)), place)
        return part is not None and not isinstance(part, Hole)

    def without(self, book, lines, line):
        """The greatest state within some lines in the order of a run, but one."""
        done = []
        net = started(book)
        for _ in lines:
            for one in lines:
                if one != line and one not in done and one in ready(net):
                    done.append(one)
                    net = met(book, net, one)
        return done

    def slow_hangs_on(self, book, least, place):
        """The start cells of values that are gone, and those that stand on the way down."""
        net = net_of(book, least)
        source = {taking: giving[0] for giving, taking in net.ties}
        on_way = [source[("root", 0)]]
        for k in place:
            on_way.append(source[(on_way[-1], k + 1)])
        standing = [cell.name for cell in net.cells]
        cells = [cell.name for cell in started(book).cells if cell.name[0] == "a"]
        return tuple(sorted([name for name in cells if name not in standing or name in on_way]))

    def test_other_values_that_keep_what_it_hangs_on(self):
        changed = 0
        for seed, book in some_books(range(60)):
            if flat_plain(book.flat, book.name, book.given, 60) is None:
                continue
            net, lines = done_all(book, started(book), 60)
            value = answer_of(net)
            rnd = random.Random(seed)
            told = places_of(value)
            for place in rnd.sample(told, min(3, len(told))):
                cells = hangs_on(book, place, 60)
                given = self.changed_values(book, cells, rnd)
                if given == book.given:
                    continue
                other = Book(book.flat, book.name, given)
                self.assertEqual(needed(other, place, 60), needed(book, place, 60))
                self.assertEqual(hangs_on(other, place, 60), cells)
                for k in range(len(place) + 1):
                    here = part_at(value, place[:k])
                    there = partial_at(sure(net_of(other, needed(book, place, 60))), place[:k])
                    if isinstance(here, Made):
                        self.assertEqual(here.maker, there.maker)
                    else:
                        self.assertEqual(here, there)
                changed += 1
        self.assertGreater(changed, 60)

    def changed_values(self, book, cells, rnd):
        """The values of a book with other parts at the uppermost cells that are not among some cells."""
        given = []
        program = book.flat.program
        function = [one for one in program.functions if one.name == book.name][0]
        for k, value in enumerate(book.given):
            for place in places_of(value):
                if part_at(value, place) is None:
                    continue
                name = ":".join([f"a{k}"] + [str(n) for n in place])
                above = [":".join([f"a{k}"] + [str(n) for n in place[:m]]) for m in range(len(place))]
                if name not in cells and all([one in cells for one in above]):
                    kind = function.places[k]
                    for m, n in enumerate(place):
                        maker = part_at(value, place[:m]).maker
                        kind = [one for its in program.kinds for one in its.makers if one.name == maker][0].places[n]
                    value = value_with(value, place, some_value(rnd, program, kind, 3))
            given.append(value)
        return tuple(given)


if __name__ == "__main__":
    unittest.main()
