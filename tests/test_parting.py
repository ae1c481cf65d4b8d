"""[86] and [87]: two runs compared."""

import unittest
from itertools import chain as chain_of

from namedmeets.answers import needed
from namedmeets.causes import causes
from namedmeets.edits import Case, carried, with_line, with_part
from namedmeets.errors import BadNumber, NoName
from namedmeets.flatrun import flat_plain
from namedmeets.nets import Book
from namedmeets.parting import Blame, Parting, blame, parting, unlike_places
from namedmeets.values import Made, part_at, places_of, value_from
from namedmeets.ways import Story
from tests.helpers import chain, raises
from tests.slowcases import carried_slowly, edited, rich_cases, some_cases, some_sums, some_wirings
from tests.slownets import MAKERS, SlowNet
from tests.test_causes import EXAMPLE, SOME
from tests.test_demands import FUELS
from tests.test_edits import CASE, ONE, TEXT, TREE, TWO
from tests.test_flatrun import FLAT
from tests.test_general import name_of
from tests.test_nets import book_of


def told(partings):
    return [(one.line, one.here, one.there, one.cell, one.what) for one in partings]


def word_of(value):
    return value.maker if isinstance(value, Made) else f"#{value}"


def word_in(net, name):
    label = net.labels[name]
    return label[1] if label[0] == "maker" else f"#{label[1]}"


def fed_by(net, end):
    """The name of the maker that feeds an end of a slow net; None if none does, or if there is no such end."""
    found = [one[0] for one in net.ties if one[1] == end]
    return found[0][0] if found and net.labels[found[0][0]][0] in MAKERS else None


def parting_slowly(one, other, place, fuel):
    """The partings by the words of [86], None above fuel."""
    lines = needed(one, place, fuel)
    if lines is None:
        return None
    state = carried_slowly(one, other, lines)
    net, there, story = SlowNet(one), SlowNet(other), Story(one, lines)
    for line in state:
        net.meet(line)
        there.meet(line)
    found = []
    for line in lines:
        if line not in state and all([cause in state for cause in causes(story, line)]):
            worker, _, word = line.rpartition(".")
            cell = fed_by(net, (worker, 0))
            if there.labels.get(worker) == net.labels[worker] and fed_by(there, (worker, 0)) == cell:
                other_word = word_in(there, cell)
                found.append((line, word, other_word, cell, "row" if word == other_word else "maker"))
            else:
                found.append((line, word, None, cell, "gone"))
    if found:
        return found
    end = other_end = ("root", 0)
    for k in tuple(place) + (None,):
        cell, feeder = fed_by(net, end), fed_by(there, other_end)
        if feeder is None or word_in(there, feeder) != word_in(net, cell):
            return [(None, word_in(net, cell), None if feeder is None else word_in(there, feeder), cell, "stands")]
        if k is not None:
            end, other_end = (cell, k + 1), (feeder, k + 1)
    return []


class Partings(unittest.TestCase):
    def check(self, one, other, place, rows):
        partings = parting(one.book, other.book, place, 99)
        self.assertIs(partings.__class__, tuple)
        self.assertEqual(told(partings), rows)
        self.assertEqual(told(parting(one.book, other.book, list(place), 99)), rows)
        self.assertEqual(parting_slowly(one.book, other.book, place, 99), rows)
        for row in partings:
            self.assertIsInstance(row, Parting)

    def test_equal_runs(self):
        for place in ((), (0,), (1,), (1, 1, 0)):
            self.check(CASE, CASE, place, [])
            self.check(CASE, Case(TEXT + "\n", "append", [TWO, ONE]), place, [])
            self.check(CASE, with_line(CASE, 7, "append (Cons a b) c = Cons a (append b c)"), place, [])
        self.check(CASE, with_part(CASE, 0, (1, 0), 9), (0,), [])
        # What stands below is not looked at.
        self.check(CASE, with_part(CASE, 1, (), value_from("Nil")), (1,), [])

    def test_maker(self):
        other = with_part(CASE, 0, (1,), value_from("Nil"))
        self.check(CASE, other, (1,), [("m:0.Cons.1.Cons", "Cons", "Nil", "a0:1", "maker")])
        self.check(CASE, other, (0,), [])
        self.check(other, CASE, (1,), [("m:0.Cons.1.Nil", "Nil", "Cons", "a0:1", "maker")])
        self.check(CASE, with_part(CASE, 0, (), value_from("Nil")), (), [("m:0.Cons", "Cons", "Nil", "a0", "maker")])
        sums = Case(TEXT, "sum", [TREE])
        self.check(sums, with_part(sums, 0, (1,), 7), (), [("m:0.Node.2.#2", "#2", "#7", "a0:1", "maker")])

    def test_row(self):
        self.check(CASE, with_line(CASE, 6, "append Nil y = Cons 5 y"), (1, 1),
            [("m:0.Cons.1.Cons.1.Nil", "Nil", "Nil", "a0:1:1", "row")])
        self.check(CASE, with_line(CASE, 6, "append Nil y = Cons 5 y"), (1, 0), [])
        self.check(CASE, with_line(CASE, 7, "append (Cons x t) y = append t y"), (),
            [("m:0.Cons", "Cons", "Cons", "a0", "row")])
        # A copy cell and a maker with more parts: the same label, the same word.
        text = "kind A = A | B Num\nkind P = P A A\nfun g A = P\ng x = P x x\n"
        one, two = Case(text, "g", [value_from("B 1")]), Case(text.replace("B Num", "B Num Num"), "g",
            [value_from("B 1 2")])
        self.check(one, two, (0,), [("m:0.B", "B", "B", "a0", "row")])
        self.check(two, one, (1, 0), [("m:0.B", "B", "B", "a0", "row")])

    def test_gone(self):
        # The worker is not there, has another label, waits, or meets something with another name.
        for old, new, rows in (
            ("f n = + n 1", "f n = 5", [("m:0.#4", "#4", None, "a0", "gone")]),
            ("f n = + n 1", "f n = - n 1", [("m:0.#4", "#4", None, "a0", "gone")]),
            ("f n = + n 1", "f n = + (* n 2) 1", [("m:0.#4", "#4", None, "a0", "gone")]),
            ("f n = + n 1", "f n = + 4 n", [("m:0.#4.0.#1", "#1", None, "m:1", "gone")]),
            ("f n = + n 1", "f n = + 1 n", [("m:0.#4", "#4", None, "a0", "gone")]),
            ("f n = + n 1", "f n = + n (+ 0 1)", [("m:0.#4.0.#1", "#1", None, "m:1", "gone")]),
            ("f n = + n 1", "f n = + n 2", [("m:0.#4.0.#1", "#1", "#2", "m:1", "maker")]),
        ):
            text = "fun f Num = Num\nf n = + n 1\n"
            self.check(Case(text, "f", [4]), Case(text.replace(old, new), "f", [4]), (), rows)

    def test_stands(self):
        text = "kind L = E | C Num L\nfun f L = L\nf x = C 1 x\n"
        one = Case(text, "f", [value_from("C 5 E")])
        for other, place, rows in (
            (Case(text.replace("C 1 x", "C 2 x"), "f", [value_from("C 5 E")]), (0,),
                [(None, "#1", "#2", "m:1", "stands")]),
            (Case(text.replace("C 1 x", "C 2 x"), "f", [value_from("C 5 E")]), (1,), []),
            (with_part(one, 0, (0,), 6), (1, 0), [(None, "#5", "#6", "a0:0", "stands")]),
            (with_part(one, 0, (), value_from("E")), (1, 0), [(None, "C", "E", "a0", "stands")]),
            (with_part(one, 0, (), value_from("E")), (1,), [(None, "C", "E", "a0", "stands")]),
            (with_part(one, 0, (1,), value_from("C 8 E")), (1, 1), [(None, "E", "C", "a0:1", "stands")]),
            (Case(text.replace("C 1 x", "C (+ 1 0) x"), "f", [value_from("C 5 E")]), (0,),
                [(None, "#1", None, "m:1", "stands")]),
            (Case(text.replace("C 1 x", "C (+ 1 0) x"), "f", [value_from("C 5 E")]), (1, 0), []),
            # The same makers, though other cells.
            (Case(text.replace("C 1 x", "C 1 (C 5 E)"), "f", [value_from("C 5 E")]), (1, 0), []),
            # There is no such tail: the maker has fewer parts there.
            (Case("kind L = E | C Num\nfun f L = L\nf x = C 1\n", "f", [value_from("E")]), (0,), []),
            (Case("kind L = E | C Num\nfun f L = L\nf x = C 1\n", "f", [value_from("E")]), (1,),
                [(None, "C", None, "a0", "stands")]),
            (Case("kind L = E | C Num\nfun f L = L\nf x = C 1\n", "f", [value_from("E")]), (1, 0),
                [(None, "C", None, "a0", "stands")]),
        ):
            self.check(one, other, place, rows)

    def test_several_in_order(self):
        one = Case("fun f Num Num = Num\nf a b = + (* a 2) (- b 3)\n", "f", [4, 5])
        self.check(one, Case(one.text, "f", [6, 7]), (), [("m:1.#4", "#4", "#6", "a0", "maker"),
            ("m:3.#5", "#5", "#7", "a1", "maker")])
        self.check(one, Case(one.text.replace("- b 3", "- b 9"), "f", [6, 5]), (),
                   [("m:1.#4", "#4", "#6", "a0", "maker"), ("m:3.#5.0.#3", "#3", "#9", "m:4", "maker")])
        self.check(one, Case(one.text.replace("- b 3", "+ b 3"), "f", [6, 7]), (),
                   [("m:1.#4", "#4", "#6", "a0", "maker"), ("m:3.#5", "#5", None, "a1", "gone")])

    def test_none_and_errors(self):
        one, other = CASE.book, with_part(CASE, 0, (), value_from("Nil")).book
        for fuel in range(3):
            self.assertIsNone(parting(one, other, (1, 1), fuel))
        self.assertIsNotNone(parting(one, other, (1, 1), 3))
        self.assertIsNone(parting(book_of("ever", "Yes"), book_of("ever", "No"), (), 100))
        self.assertEqual(told(parting(book_of("ever", "No"), book_of("ever", "Yes"), (), 1)),
            [("m:0.No", "No", "Yes", "a0", "maker")])
        for place, k in (((2,), 0), ((0, 0), 1), ((1, 1, 1, 1, 5), 3), ((-1,), 0)):
            raises(self, NoName, {"name": k}, parting, one, other, place, 99)
        for fuel in FUELS:
            raises(self, BadNumber, {"what": "fuel", "number": fuel}, parting, one, other, (9,), fuel)

    def test_made_up_edits(self):
        sorts = {"maker": 0, "row": 0, "gone": 0, "stands": 0, "none": 0}
        for rnd, case in chain_of(some_cases(range(30)), rich_cases(range(16)), some_sums(range(50))):
            came = flat_plain(case.book.flat, case.name, case.given, 80)
            other = edited(rnd, case)
            if came is None:
                continue
            places = places_of(came.value)
            there = flat_plain(other.book.flat, other.name, other.given, 300)
            for place in rnd.sample(places, min(3, len(places))):
                rows = told(parting(case.book, other.book, place, 80))
                self.assertEqual(rows, parting_slowly(case.book, other.book, place, 80))
                for row in rows:
                    sorts[row[4]] += 1
                sorts["none"] += not rows
                if not rows and there is not None:
                    # Fact (a): the same words stand at place and above it.
                    for k in range(len(place) + 1):
                        self.assertEqual(word_of(part_at(came.value, place[:k])),
                            word_of(part_at(there.value, place[:k])))
        self.assertTrue(all([many > 5 for many in sorts.values()]), sorts)


class UnlikePlaces(unittest.TestCase):
    def test_by_hand(self):
        for one, two, places in (
            ("Nil", "Nil", ()), ("1", "1", ()), ("1", "2", ((),)), ("1", "-1", ((),)), ("Nil", "0", ((),)),
            ("0", "Nil", ((),)),
            ("Cons 1 Nil", "Nil", ((),)), ("Cons 1 Nil", "Cons 2 Nil", ((0,),)),
            ("Cons 1 Nil", "Cons 1 (Cons 2 Nil)", ((1,),)),
            ("Cons 1 (Cons 2 Nil)", "Cons 3 (Cons 4 (Cons 5 Nil))", ((0,), (1, 0), (1, 1))),
            ("Cons 1 Nil", "Cons 0 (Cons 1 Nil)", ((0,), (1,))),
            ("Node (Node Leaf 1 Leaf) 2 Leaf", "Node (Node Leaf 5 (Node Leaf 1 Leaf)) 2 (Node Leaf 0 Leaf)",
                ((0, 1), (0, 2), (2,))),
            # The same maker with fewer parts: the cells that both have.
            ("A 1 2 3", "A 1 5", ((1,),)), ("A 1 5", "A 1 2 3", ((1,),)), ("A", "A 1", ()),
            ("A (B 1 2) 3", "A (B 4)", ((0, 0),)),
        ):
            self.assertEqual(unlike_places(value_from(one), value_from(two)), places)
            self.assertEqual(unlike_places(value_from(two), value_from(one)), places)
        self.assertIs(unlike_places(1, 2).__class__, tuple)
        self.assertEqual(unlike_places(chain(2000, 5), chain(2000, 6)), ((1,) * 2000,))
        self.assertEqual(unlike_places(chain(2000, 5), chain(1999, 5)), ((1,) * 1999,))


class Blames(unittest.TestCase):
    def test_by_hand(self):
        other = with_part(with_part(CASE, 0, (0,), 7), 1, (), value_from("Nil"))
        rows = blame(CASE.book, other.book, 3)
        self.assertIs(rows.__class__, tuple)
        self.assertTrue(all([isinstance(one, Blame) and one.partings.__class__ is tuple for one in rows]))
        self.assertEqual([(one.place, one.here, one.there, told(one.partings)) for one in rows], [
            ((0,), "#1", "#7", [(None, "#1", "#7", "a0:0", "stands")]), ((1, 1), "Cons", "Nil",
                [(None, "Cons", "Nil", "a1", "stands")])])
        other = with_line(with_part(CASE, 0, (1, 0), 9), 6, "append Nil y = Cons 5 Nil")
        self.assertEqual([(one.place, one.here, one.there, told(one.partings)) for one in blame(CASE.book, other.book,
            99)], [
            ((1, 0), "#2", "#9", [(None, "#2", "#9", "a0:1:0", "stands")]),
            ((1, 1, 0), "#1", "#5", [("m:0.Cons.1.Cons.1.Nil", "Nil", "Nil", "a0:1:1", "row")])])
        self.assertEqual(blame(CASE.book, CASE.book, 3), ())
        one, two = Case("fun f Num Num = Num\nf a b = + a b\n", "f",
            [4, 5]), Case("fun f Num Num = Num\nf a b = + a b\n", "f", [5, 4])
        self.assertEqual(blame(one.book, two.book, 2), ())

    def test_fuel(self):
        other = with_part(CASE, 0, (1,), TWO)
        counts = [3, 4]
        for fuel in range(6):
            for one, two in ((CASE, other), (other, CASE), (CASE, CASE), (other, other)):
                most = max([counts[0] if case is CASE else counts[1] for case in (one, two)])
                self.assertEqual(blame(one.book, two.book, fuel) is None, fuel < most)
        self.assertIsNone(blame(book_of("ever", "No"), book_of("ever", "Yes"), 200))
        self.assertIsNone(blame(book_of("ever", "Yes"), book_of("ever", "No"), 200))
        for fuel in FUELS:
            raises(self, BadNumber, {"what": "fuel", "number": fuel}, blame, SOME.book, EXAMPLE, fuel)

    def test_attributes_are_copied(self):
        place, partings = [0, 1], [Parting(None, "A", None, "a0", "stands")]
        one = Blame(place, "A", "B", partings)
        place.append(5)
        partings.append(6)
        self.assertEqual((one.place, one.here, one.there, len(one.partings)), ((0, 1), "A", "B", 1))

    def test_made_up_edits(self):
        several = same_program = 0
        for rnd, case in chain_of(some_cases(range(30)), rich_cases(range(16)), some_sums(range(50))):
            other = edited(rnd, case)
            came = flat_plain(case.book.flat, case.name, case.given, 80)
            there = flat_plain(other.book.flat, other.name, other.given, 80)
            rows = blame(case.book, other.book, 80)
            if came is None or there is None:
                self.assertIsNone(rows)
                continue
            self.assertEqual([one.place for one in rows], list(unlike_places(came.value, there.value)))
            for one in rows:
                self.assertEqual((one.here, one.there),
                    (word_of(part_at(came.value, one.place)), word_of(part_at(there.value, one.place))))
                self.assertEqual(told(one.partings), parting_slowly(case.book, other.book, one.place, 80))
                self.assertEqual(told(one.partings), told(parting(case.book, other.book, one.place, 80)))
                # Fact (b).
                self.assertGreater(len(one.partings), 0)
                several += len(rows) > 1
                if case.text == other.text:
                    # Fact (c), for books with the same flat program.
                    cells = [name_of(k, place) for k, value in enumerate(case.given) for place in places_of(value)]
                    twin = Book(case.book.flat, other.name, other.given)
                    for line, here, word, cell, what in told(parting(case.book, twin, one.place, 80)):
                        self.assertIn(what, ("maker", "stands"))
                        self.assertIn(cell, cells)
                        self.assertNotEqual(here, word)
                        same_program += 1
        self.assertGreater(several, 10)
        self.assertGreater(same_program, 10)

    def test_lines_that_are_carried_for_other_places(self):
        # What is carried of all lines of a run may be more than what is carried of those that a place needs.
        text = "kind P = P Num Num\nfun f Num Num = P\nf a b = "
        one, other = Case(text + "P (+ a 1) b", "f", [1, 1]), Case(text + "P b (+ a 1)", "f", [1, 1])
        self.assertEqual([(row.place, row.here, row.there, told(row.partings)) for row in blame(one.book, other.book, 9)], [
            ((0,), "#2", "#1", [(None, "#2", "#1", "m:1.#1.0.#1.0", "stands")]), ((1,), "#1", "#2", [(None, "#1", None, "a1", "stands")])])
        checked = 0
        for one, other in some_wirings(range(2000)):
            for row in blame(one.book, other.book, 99):
                self.assertEqual(told(row.partings), parting_slowly(one.book, other.book, row.place, 99))
                checked += 1
        self.assertGreater(checked, 300)

    def test_long_runs(self):
        value = chain(300, value_from("Nil"))
        one, other = Book(FLAT, "append", [value, value]), Book(FLAT, "append",
            [chain(300, value_from("Nil"), ahead=(2,)), value])
        rows = blame(one, other, 700)
        self.assertEqual(len(rows), 300)
        self.assertEqual(told(rows[299].partings), [(None, "#1", "#2", "a0" + ":1" * 299 + ":0", "stands")])
        other = Book(FLAT, "append", [chain(150, value_from("Cons 9 Nil")), value])
        rows = blame(one, other, 700)
        self.assertEqual(told(rows[1].partings)[0][4], "maker")
        self.assertEqual(carried(one, other, needed(one, (1,) * 100, 700)), needed(one, (1,) * 100, 700))


if __name__ == "__main__":
    unittest.main()
