"""[52] and [53]: who waits for whom, and what is needed."""

import random
import unittest

from namedmeets.causes import past
from namedmeets.demands import feeder, least_state, missing, waiting
from namedmeets.errors import BadNet, BadNumber, NoName
from namedmeets.flatten import flattened
from namedmeets.nets import Book, done_all, met, net_of, ready, started
from namedmeets.programs import Program
from namedmeets.values import value_from
from namedmeets.ways import Story
from tests.helpers import chain, raises
from tests.slownets import ROOT, done_slowly, some_books, some_run
from tests.test_causes import BOTH, EXAMPLE, SOME, whole
from tests.test_flatrun import FLAT
from tests.test_nets import book_of

FUELS = (-1, True, False, None, "5", 1.0, [5])


def comes_to_maker(book, lines, end):
    """Whether the way of an end comes to a maker in a state, also if the cell of the end is gone."""
    story = Story(book, lines)
    name, number = story.way(end)[-1]
    return number == 0 and story.cell(name).label[0] in ("maker", "number")


class Feeders(unittest.TestCase):
    def test_all_ends_of_a_net(self):
        nets = 0
        for seed, book in some_books(range(12)):
            net = net_of(book, some_run(book, seed, 12))
            for giving, taking in net.ties:
                self.assertEqual(feeder(net, taking), giving[0])
            labels = {cell.name: cell.label for cell in net.cells}
            pairs = []
            for giving, taking in net.ties:
                if taking[0] in labels and labels[taking[0]][0] not in ("maker", "number") and taking[1] == 0:
                    if labels[giving[0]][0] not in ("maker", "number"):
                        pairs.append((taking[0], giving[0]))
                        self.assertEqual(feeder(net, (taking[0], 0)), giving[0])
            self.assertEqual(waiting(net), tuple(sorted(pairs)))
            nets += len(pairs)
        self.assertGreater(nets, 30)

    def test_the_example(self):
        net = started(EXAMPLE)
        for end, name in ((ROOT, "m:0"), (("m:0", 0), "a0"), (("m:0", 1), "a1"), (("a0", 1), "a0:0"), (("a1", 2), "a1:1")):
            self.assertEqual(feeder(net, end), name)
        self.assertEqual(waiting(net), ())
        net = started(book_of("some", 4))
        self.assertEqual(waiting(net), (("m:0", "m:1"),))
        self.assertEqual(waiting(met(book_of("some", 4), net, "m:3.Node")),
                         (("m:0", "m:1"), ("m:3.Node.0", "m:3.Node.1")))
        self.assertEqual(feeder(net, ("m:0", 1)), "m:3")

    def test_errors(self):
        net = started(book_of("some", 4))
        for name in ("", "m:9", "a1", "Root", "m:1.#4.0", None, 5, True, ["m:0"], ("m:0",)):
            for number in (0, 1, "x", None):
                raises(self, NoName, {"name": name}, feeder, net, (name, number))
        for name, number in (("root", 1), ("root", -1), ("root", False), ("m:0", 2), ("m:0", 3), ("m:0", -1), ("m:0", True),
                             ("m:0", "0"), ("m:0", None), ("a0", 0), ("m:4", 0), ("m:4", 4), ("m:3", 1), ("m:5", 1)):
            raises(self, BadNumber, {"what": "taking", "number": number}, feeder, net, (name, number))


class Missing(unittest.TestCase):
    def test_the_example(self):
        book = SOME.book
        for lines, end, told in (
            ([], ("m:0", 0), ("m:1.#4", "m:1.#4.0.#2")), (["m:1.#4"], ("m:0", 0), ("m:1.#4.0.#2",)),
            (["m:1.#4", "m:1.#4.0.#2"], ("m:0", 0), ()), ([], ROOT, SOME.lines), ([], ("m:4", 1), ()),
            ([], ("m:0", 1), tuple([line for line in SOME.lines if line.startswith("m:3")])),
            (["m:3.Node", "m:1.#4", "m:3.Node"], ("m:3.Node.0", 0), ("m:3.Node.1.Leaf",)),
            (["m:3.Node"], ("m:3.Node.2", 1), ("m:3.Node.3.Leaf",)), (["m:3.Node"], ("m:3.Node.2", 0), ()),
        ):
            self.assertEqual(missing(book, lines, end, len(told)), told)
            self.assertEqual(missing(book, tuple(lines), end, 1000), told)
            self.assertIs(missing(book, lines, end, 1000).__class__, tuple)
            for fuel in range(len(told)):
                self.assertIsNone(missing(book, lines, end, fuel))

    def test_made_up_runs(self):
        # It has just the lines of a whole run without which no maker feeds the end.
        checked = 0
        for seed, book in some_books(range(25)):
            lines = some_run(book, seed, 26)
            if len(lines) > 25 or not lines:
                continue
            rnd = random.Random(seed)
            some = lines[:rnd.randint(0, len(lines) // 2)]
            ends = [taking for _, taking in net_of(book, some).ties]
            for end in rnd.sample(ends, min(3, len(ends))):
                needs = []
                for line in lines:
                    others = done_slowly(book, [one for one in lines if one != line])
                    if line not in some and not comes_to_maker(book, others, end):
                        needs.append(line)
                self.assertTrue(comes_to_maker(book, lines, end))
                self.assertEqual(missing(book, some, end, 30), tuple(sorted(needs)))
                if needs:
                    self.assertEqual(missing(book, some, end, len(needs)), tuple(sorted(needs)))
                    self.assertIsNone(missing(book, some, end, len(needs) - 1))
                checked += 1
        self.assertGreater(checked, 60)

    def test_no_such_set(self):
        for name in ("ever", "beside"):
            book = book_of(name, "Yes")
            work = [cell.name for cell in started(book).cells if cell.label == ("work", "ever")][0]
            end = [taking for giving, taking in started(book).ties if giving[0] == work][0]
            for fuel in (0, 1, 2, 500):
                self.assertIsNone(missing(book, [], end, fuel))
                self.assertIsNone(missing(book, [f"{work}.Yes"], end, fuel))
        # In a run that goes on for ever some ends have all that they need.
        book = book_of("grow", 0)
        told = missing(book, [], ROOT, 100)
        self.assertIsNotNone(told)
        self.assertEqual(missing(book, [], ROOT, len(told)), told)
        self.assertIsNone(missing(book, [], ROOT, len(told) - 1))
        self.assertEqual(missing(book_of("beside", "Yes"), ["m:1.Yes"], ROOT, 0), ())

    def test_errors(self):
        book = SOME.book
        for lines, line in ((["m:1.#5"], "m:1.#5"), (["m:1.#4.0.#2"], "m:1.#4.0.#2"), (["m:1.#4", "x", "y"], "x")):
            raises(self, BadNet, {"what": line}, missing, book, lines, ROOT, 5)
            raises(self, BadNet, {"what": line}, missing, book, lines, ("x", 5), -1)
        for name in ("", "m:1", "m:9", "m:3.Node.0", None, 5, ["m:0"]):
            raises(self, NoName, {"name": name}, missing, book, ["m:1.#4"], (name, "x"), -1)
        for name, number in (("root", 1), ("m:0", 2), ("m:0", True), ("m:1.#4.0", 1), ("m:1.#4.0", None), ("a0", 0)):
            # Behind m:1.#4 the cell a0 is gone.
            if name == "a0":
                raises(self, NoName, {"name": name}, missing, book, ["m:1.#4"], (name, number), 1)
            else:
                raises(self, BadNumber, {"what": "taking", "number": number}, missing, book, ["m:1.#4"], (name, number), -1)
        for fuel in FUELS:
            raises(self, BadNumber, {"what": "fuel", "number": fuel}, missing, book, ["m:1.#4"], ROOT, fuel)
            raises(self, BadNumber, {"what": "fuel", "number": fuel}, missing, book, list(SOME.lines), ROOT, fuel)

    def test_long_rows_of_waiting(self):
        value = chain(480, value_from("Nil"))
        book = Book(FLAT, "len", [value])
        told = missing(book, [], ROOT, 2000)
        self.assertEqual(len(told), 3 * 480 + 1)
        self.assertEqual(done_all(book, net_of(book, told), 2000)[1],
                         tuple([line for line in done_all(book, started(book), 2000)[1] if line not in told]))


class LeastState(unittest.TestCase):
    def test_words_that_states_have(self):
        for line in SOME.lines:
            told = past(SOME, line)
            self.assertEqual(least_state(SOME.book, [line], len(told)), told)
            self.assertEqual(least_state(SOME.book, [line, line], 999), told)
            for fuel in range(len(told)):
                self.assertIsNone(least_state(SOME.book, [line], fuel))
        for fuel in (0, 5):
            self.assertEqual(least_state(SOME.book, [], fuel), ())
        self.assertEqual(least_state(EXAMPLE, ("m:0.Cons.1.Nil",), 2), BOTH)

    def test_made_up_runs(self):
        checked = 0
        for seed, book in some_books(range(30)):
            story = Story(book, some_run(book, seed, 40))
            rnd = random.Random(seed)
            for many in (1, 2, 5):
                words = rnd.sample(story.lines, min(many, len(story.lines)))
                words = words + words[:1]
                rnd.shuffle(words)
                told = tuple(sorted(set([one for word in words for one in past(story, word)])))
                self.assertEqual(least_state(book, words, len(told)), told)
                self.assertEqual(least_state(book, tuple(words), 2000), told)
                if told:
                    self.assertIsNone(least_state(book, words, len(told) - 1))
                    # One word that no state has is too many.
                    wrong = words[0] + rnd.choice([".0", ".", "x", ".0.Nope", "0"])
                    self.assertIsNone(least_state(book, words + [wrong], 2000))
                    checked += 1
        self.assertGreater(checked, 150)

    def test_words_that_no_state_has(self):
        book = SOME.book
        for word in (
            "", ".", "m", "m:0", "m:1", "a0", "a0.#4", "m:1.", "m:1.#5", "m:1.#", "m:1.4", "m:1.Node", "m:1.#4.", "m:1.#4.0",
            "m:1.#4.0.", "m:1.#4.0.#3", "m:1.#4.1.#2", "m:1.#4.00.#2", "m:2.#2", "m:3.Leaf", "m:3.Node.0.#1", "m:3.Node.4.Leaf",
            "m:9.Leaf", "m:1.#4.0.#2.0", "m:1.#4.0.#2.0.#8", "m:0.#7", "m:0.#8.0.#3.0.#5", " m:1.#4", "m:1.#4 ", "m:01.#4",
            "m:3.Node.Node", "root", "root.#5", "m:1..#4", ".m:1.#4", "m:1.#4.#2", "m:3.Node.2.#3.0.#00",
            None, 5, True, ["m:1.#4"], ("m:1.#4",), value_from("Nil"), {"m:1.#4": 1}, book,
        ):
            for fuel in (0, 1, 500):
                self.assertIsNone(least_state(book, [word], fuel))
                self.assertIsNone(least_state(book, ["m:1.#4", word], fuel))
                self.assertIsNone(least_state(book, [word, "m:1.#4"], fuel))

    def test_runs_that_go_on_for_ever(self):
        book = book_of("beside", "Yes")
        lines = ["m:1.Yes" + ".0.Yes" * k for k in range(50)]
        self.assertEqual(least_state(book, [lines[49]], 50), tuple(lines))
        self.assertIsNone(least_state(book, [lines[49]], 49))
        self.assertIsNone(least_state(book, [lines[49], "m:1.No"], 500))
        self.assertIsNone(least_state(book, ["m:0.#0"], 500))
        book = book_of("hidden", "Yes", flat=FLAT)
        self.assertIsNone(least_state(book, ["m:0.#0"], 500))
        self.assertEqual(least_state(book_of("hidden", "No", flat=FLAT), ["m:0.#0"], 2), ("m:0.#0", "m:1.No"))

    def test_errors(self):
        for fuel in FUELS:
            for words in ([], ["m:1.#4"], [None], ["x"]):
                raises(self, BadNumber, {"what": "fuel", "number": fuel}, least_state, SOME.book, words, fuel)

    def test_long_words(self):
        book = book_of("ever", "Yes")
        word = "m:0.Yes" + ".0.Yes" * 1999
        self.assertEqual(len(least_state(book, [word], 2000)), 2000)
        self.assertIsNone(least_state(book, [word], 1999))
        self.assertEqual(len(least_state(book, ["m:0.Yes" + ".0.Yes" * k for k in range(500)], 500)), 500)
        self.assertIsNone(least_state(book, ["m:0.No" + ".0.Yes" * 40000], 2000))
        self.assertIsNone(least_state(book, ["." * 200000], 2000))

    def test_the_worker_met_another_one_by_now(self):
        # What the first word needs brings the worker of the second one to another maker.
        text = "kind List = Nil | Cons Num List\nfun f List = List\nf Nil = Nil\nf (Cons x t) = Cons x (f t)\n"
        book = Book(flattened(Program(text)), "f", [value_from("Cons 1 Nil")])
        self.assertEqual(ready(started(book)), ("m:0.Cons",))
        self.assertIsNone(least_state(book, ["m:0.Cons.1.Nil", "m:0.Nil"], 9))
        self.assertIsNone(least_state(book, ["m:0.Cons.1.Nil", "m:0.Cons.1.Cons"], 9))
        self.assertIsNone(least_state(book, ["m:0.Cons.1.Nil", "m:0.Cons.0.Cons"], 9))
        self.assertIsNone(least_state(book, ["m:0.Cons.0.Nil"], 9))
        self.assertEqual(least_state(book, ["m:0.Cons.1.Nil", "m:0.Cons"], 9), ("m:0.Cons", "m:0.Cons.1.Nil"))
        self.assertEqual(whole(book).lines, ("m:0.Cons", "m:0.Cons.1.Nil"))


if __name__ == "__main__":
    unittest.main()
