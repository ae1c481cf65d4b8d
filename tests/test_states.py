"""[54] and [55]: states as sets."""

import random
import unittest

from namedmeets.errors import BadNet
from namedmeets.nets import net_of, ready, started
from namedmeets.states import common, is_state, joined, next_lines, whole_part
from namedmeets.values import value_from
from tests.helpers import raises
from tests.slownets import done_slowly, some_books, some_run
from tests.test_causes import BOTH, EXAMPLE, SOME

STRANGE = [None, 5, True, 1.5, ["m:1.#4"], ("m:1.#4",), {"m:1.#4": 1}, value_from("Nil"), b"m:1.#4", SOME]
OTHERS = ["", "m:1", "m:1.#5", "m:1.#4.", "m:1.#4.0", "root", "m:3.Leaf", " m:1.#4", "a0", "m:2.#2"]


class WholePart(unittest.TestCase):
    def test_words_of_any_kind(self):
        book = SOME.book
        for words, told in (
            ([], ()), (STRANGE, ()), (OTHERS, ()), (["m:1.#4", *STRANGE, *OTHERS, "m:1.#4"], ("m:1.#4",)),
            ([*OTHERS, *reversed(SOME.lines), *STRANGE, *SOME.lines], SOME.lines), (SOME.lines, SOME.lines),
            # Lines whose causes are lacking.
            (["m:1.#4.0.#2"], ()), (["m:1.#4.0.#2", "m:1.#4"], ("m:1.#4", "m:1.#4.0.#2")),
            (["m:0.#8.0.#3", "m:0.#8", "m:3.Node"], ("m:3.Node",)),
            ([line for line in SOME.lines if line != "m:3.Node"], ("m:0.#8", "m:1.#4", "m:1.#4.0.#2")),
        ):
            self.assertEqual(whole_part(book, words), told)
            self.assertEqual(whole_part(book, tuple(words)), told)
            self.assertIs(whole_part(book, words).__class__, tuple)

    def test_made_up_runs(self):
        more = 0
        for seed, book in some_books(range(30)):
            lines = some_run(book, seed, 30)
            rnd = random.Random(seed)
            one = [line for line in lines if rnd.random() < 0.7]
            two = [line for line in lines if rnd.random() < 0.7]
            parts = []
            for words in (one, two, one + two):
                told = whole_part(book, words)
                self.assertEqual(told, tuple(sorted(done_slowly(book, words))))
                self.assertTrue(is_state(book, told))
                self.assertEqual(is_state(book, words), sorted(set(words)) == list(told))
                parts.append(told)
            # Two lists may be more together than each alone.
            union = joined(book, parts[0], parts[1])
            self.assertTrue(all([line in parts[2] for line in union]))
            more += len(parts[2]) > len(union)
        self.assertGreater(more, 10)

    def test_two_lists_that_are_more_together(self):
        one, two = ["m:1.#4", "m:3.Node.1.Leaf"], ["m:3.Node", "m:1.#4.0.#2"]
        self.assertEqual(whole_part(SOME.book, one), ("m:1.#4",))
        self.assertEqual(whole_part(SOME.book, two), ("m:3.Node",))
        self.assertEqual(whole_part(SOME.book, one + two), ("m:1.#4", "m:1.#4.0.#2", "m:3.Node", "m:3.Node.1.Leaf"))

    def test_is_state(self):
        book = SOME.book
        for words in ([], ["m:1.#4"], ["m:1.#4", "m:1.#4"], list(SOME.lines), [*reversed(SOME.lines), *SOME.lines],
                      ["m:1.#4.0.#2", "m:1.#4"], ("m:3.Node",)):
            self.assertIs(is_state(book, words), True)
            for word in STRANGE + OTHERS:
                self.assertIs(is_state(book, [*words, word]), False)
                self.assertIs(is_state(book, [word, *words]), False)
        for words in (["m:1.#4.0.#2"], ["m:0.#8.0.#3", "m:1.#4"], list(SOME.lines[1:]), list(SOME.lines[:-1]) + ["x"]):
            self.assertFalse(is_state(book, words))

    def test_endless_runs(self):
        for seed, book in some_books(range(6)):
            lines = some_run(book, seed, 20)
            self.assertEqual(whole_part(book, lines + ["m:0.Nope"]), tuple(sorted(lines)))


class Together(unittest.TestCase):
    def test_the_example(self):
        self.assertEqual(joined(EXAMPLE, ["m:0.Cons"], []), ("m:0.Cons",))
        self.assertEqual(joined(EXAMPLE, [], BOTH), BOTH)
        self.assertEqual(joined(EXAMPLE, ["m:0.Cons", "m:0.Cons"], list(reversed(BOTH))), BOTH)
        self.assertEqual(joined(EXAMPLE, [], []), ())
        self.assertEqual(common(EXAMPLE, ["m:0.Cons"], []), ())
        self.assertEqual(common(EXAMPLE, BOTH, ["m:0.Cons", "m:0.Cons"]), ("m:0.Cons",))
        self.assertEqual(common(EXAMPLE, BOTH, list(reversed(BOTH))), BOTH)
        self.assertEqual(next_lines(EXAMPLE, []), ("m:0.Cons",))
        self.assertEqual(next_lines(EXAMPLE, ["m:0.Cons", "m:0.Cons"]), ("m:0.Cons.1.Nil",))
        self.assertEqual(next_lines(EXAMPLE, BOTH), ())

    def test_made_up_runs(self):
        both = 0
        for seed, book in some_books(range(25)):
            rnd = random.Random(seed)
            states = []
            for k in range(2):
                lines = some_run(book, seed * 10 + k, rnd.randint(0, 30))
                mixed = lines + lines[:3]
                rnd.shuffle(mixed)
                states.append(mixed)
                self.assertEqual(next_lines(book, mixed), ready(net_of(book, lines)))
            one, two = states
            union = tuple(sorted(set(one + two)))
            part = tuple(sorted([line for line in set(one) if line in two]))
            for first, second in ((one, two), (two, one)):
                self.assertEqual(joined(book, first, second), union)
                self.assertEqual(common(book, first, second), part)
            self.assertTrue(is_state(book, union))
            self.assertTrue(is_state(book, part))
            both += len(part) not in (len(set(one)), len(set(two)))
        self.assertGreater(both, 10)
        self.assertEqual(next_lines(SOME.book, []), ready(started(SOME.book)))

    def test_lists_that_are_no_states(self):
        book, good = SOME.book, ["m:1.#4"]
        for wrong, line in ((["x"], "x"), (["m:1.#4.0.#2"], "m:1.#4.0.#2"), (["m:3.Node", "y", "x"], "y"), ([""], "")):
            for call in (joined, common):
                raises(self, BadNet, {"what": line}, call, book, wrong, good)
                raises(self, BadNet, {"what": line}, call, book, good, wrong)
                raises(self, BadNet, {"what": line}, call, book, wrong, ["z"])
                raises(self, BadNet, {"what": "z"}, call, book, ["z"], wrong)
                # The causes that the other list has do not count.
                raises(self, BadNet, {"what": "m:1.#4.0.#2"}, call, book, good, ["m:1.#4.0.#2"])
            raises(self, BadNet, {"what": line}, next_lines, book, wrong)


if __name__ == "__main__":
    unittest.main()
