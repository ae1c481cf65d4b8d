"""[60] to [62]: logs."""

import random
import unittest

from namedmeets.errors import BadName, BadText
from namedmeets.logs import appended, held, is_line, left_over, lines_in, log_text, parent_of
from namedmeets.states import is_state, next_lines, whole_part
from tests.helpers import raises
from tests.slownets import done_slowly, some_books, some_run
from tests.test_causes import BOTH, EXAMPLE, SOME
from tests.test_states import STRANGE

GOOD = ("m:0.Cons", "m:0.Nil", "m:10.A", "m:0.#0", "m:0.#5", "m:0.#-5", "m:0.#-10", "m:0.Cons.1.Nil", "m:0.#5.0.#-3",
        "m:7.Cons.0.#12.23.Node_1x", "m:0." + "A" * 24, "m:0.A.1." + "Z" + "_" * 23, "m:0.#" + "9" * 9000,
        "m:0.#-" + "1" * 9000, "m:" + "3" * 9000 + ".A", "m:0.A." + "8" * 9000 + ".B", "m:0.Kind", "m:0.Num.0.Truth")
BENT = ("", ".", "m", "m:", "m:.", "m:0", "m:0.", "m:.A", "m:0.A.", "m:0.A.0", "m:0.A.0.", "m:0.A.0.B.", "m:0.A.0.B.1",
        "m:0.A.B", "m:0.0", "m:0.0.A", "m:0.A.B.0", "m:0.A..B", "m:0..A", ".m:0.A", "m:0.A.0.0.B", "m:0.A.0.B.C",
        "0.A", "A",
        "m:00.A", "m:01.A", "m:-1.A", "m:-0.A", "m:+1.A", "m:1 .A", "m: 1.A", "m:x.A", "m0.A", "n:0.A", "M:0.A", "a0.A",
        "m:0.A.00.B", "m:0.A.01.B", "m:0.A.-1.B", "m:0.A.x.B", "m:0.A.m:0.B", "m:0.A.#0.B",
        "m:0.a", "m:0.cons", "m:0._A", "m:0.1A", "m:0.A-", "m:0.A(", "m:0.A;", "m:0." + "A" * 25,
        "m:0.A.0." + "A" * 25, "m:0.#", "m:0.#-", "m:0.#-0", "m:0.#00", "m:0.#01", "m:0.#-01", "m:0.#+1", "m:0.##1",
        "m:0.#1#", "m:0.#1_0", "m:0.#x", "m:0.# 1", "m:0.5", "m:0.-5", "m:0.A#",
        " m:0.A", "m:0.A ", "m:0. A", "m:0 .A", "m:0.A .0.B", "m:0.A\n", "\nm:0.A", "m:0.A\n.0.B", "m:0.#1\n",
        "m:0\n.A",
        "m:\u0661.A", "m:0.\u00c4", "m:0.#\u0661", "m:\u00b2.A", "root", "m:0.A.0.B.0", "m:0.Cons.1.Nil,", "m:0:1.A")


class Lines(unittest.TestCase):
    def test_forms(self):
        for word in GOOD:
            self.assertIs(is_line(word), True, word[:50])
        for word in BENT + tuple(STRANGE[:-1]) + (SOME.book, b"m:0.A", ["m:0.A"]):
            self.assertIs(is_line(word), False, word)

    def test_lines_of_runs(self):
        for seed, book in some_books(range(10)):
            for line in some_run(book, seed, 20):
                self.assertTrue(is_line(line))
                self.assertFalse(is_line(line + "."))
                self.assertFalse(is_line(line.rpartition(".")[0]))

    def test_parents(self):
        for line, told in (
            ("m:0.Cons", None), ("m:12.#-5", None), ("m:0.Cons.1.Nil", "m:0.Cons"), ("m:3.#4.0.#2", "m:3.#4"),
            ("m:0.A.1.B.22.#333", "m:0.A.1.B"), ("m:0.A" + ".0.B" * 500, "m:0.A" + ".0.B" * 499),
        ):
            self.assertEqual(parent_of(line), told)
        for word in BENT:
            raises(self, BadName, {"name": word}, parent_of, word)
        for word in STRANGE:
            with self.assertRaises(BadName) as caught:
                parent_of(word)
            if word != SOME:
                self.assertIs(caught.exception.name, word)

    def test_parents_are_causes(self):
        for seed, book in some_books(range(8)):
            lines = some_run(book, seed, 25)
            for k, line in enumerate(lines):
                self.assertIn(parent_of(line), [None] + lines[:k])


class Texts(unittest.TestCase):
    def test_log_text(self):
        self.assertEqual(log_text([]), "")
        self.assertEqual(log_text(["m:0.A"]), "m:0.A\n")
        self.assertEqual(log_text(("m:0.A", "x y", "", "m:0.A")), "m:0.A\nx y\n\nm:0.A\n")

    def test_lines_in(self):
        for text, told in (
            ("", ()), ("\n", ()), ("\n\n\n", ()), ("m:0.A", ()), ("m:0.A\n", ("m:0.A",)), ("\nm:0.A\n", ("m:0.A",)),
            ("m:0.B\nm:0.A\n", ("m:0.B", "m:0.A")), ("m:0.B\nm:0.A\nm:0.B\n", ("m:0.B", "m:0.A")),
            ("m:0.B\nm:0.A\nm:0.", ("m:0.B", "m:0.A")), ("m:0.B\nm:0.A\nm:0.C", ("m:0.B", "m:0.A")),
            ("m:0.B\n\n\nm:0.A\n", ("m:0.B", "m:0.A")), ("m:0.B\nword\nm:0.A \n m:0.C\nm:0.D\n", ("m:0.B", "m:0.D")),
            ("m:0.B m:0.A\nm:0.A\n", ("m:0.A",)), ("m:0.\nA\n", ()), ("m:0.A;\n;m:0.B\n", ()),
        ):
            self.assertEqual(lines_in(text), told)
            self.assertIs(lines_in(text).__class__, tuple)
        for text in (None, 5, True, ["m:0.A"], ("m:0.A\n",), b"m:0.A\n", SOME):
            raises(self, BadText, {"line": 0, "column": 0}, lines_in, text)

    def test_appended(self):
        for text, lines, told in (
            ("", [], ""), ("", ["m:0.A"], "m:0.A\n"), ("m:0.A\n", ["m:0.B", "m:0.A"], "m:0.A\nm:0.B\nm:0.A\n"),
            ("m:0.A", ["m:0.B"], "m:0.A\nm:0.B\n"), ("m:0.", ["m:0.B"], "m:0.\nm:0.B\n"), ("x", [], "x\n"),
            ("x\n", [], "x\n"),
            ("\n", ["m:0.A"], "\nm:0.A\n"), ("x\n\n", ("m:0.A",), "x\n\nm:0.A\n"),
        ):
            self.assertEqual(appended(text, lines), told)

    def test_long_logs(self):
        lines = ["m:0.Yes" + ".0.Yes" * (k // 100) + f".{k}.A" for k in range(4000)]
        text = log_text(lines)
        self.assertGreater(len(text), 300000)
        self.assertEqual(lines_in(text), tuple(lines))
        self.assertEqual(lines_in("m" * 300000 + "\n" + "." * 300000 + "\n"), ())


class Held(unittest.TestCase):
    def test_the_example(self):
        one, two = BOTH
        for texts, told, left in (
            ([], (), ()), ([""], (), ()), ([log_text(BOTH)], BOTH, ()), ([log_text([two, one])], BOTH, ()),
            ([log_text([two])], (), (two,)), ([log_text([two]), log_text([one])], BOTH, ()),
            ([log_text([two, two]), "", log_text([one, two, one])], BOTH, ()), ([one, log_text([two])], (), (two,)),
            (["m:0.Nil\nm:9.A\nword\n" + log_text([one])], (one,), ("m:0.Nil", "m:9.A")),
            (["m:9.A\n", "m:0.Nil\n", "m:9.A\n"], (), ("m:0.Nil", "m:9.A")),
        ):
            for order in (texts, list(reversed(texts)), tuple(texts)):
                self.assertEqual(held(EXAMPLE, order), told)
                self.assertEqual(left_over(EXAMPLE, order), left)
                self.assertIs(held(EXAMPLE, order).__class__, tuple)
                self.assertIs(left_over(EXAMPLE, order).__class__, tuple)

    def test_values_that_are_no_texts(self):
        for text in (None, 5, ["m:0.Cons"], b""):
            for call in (held, left_over):
                raises(self, BadText, {"line": 0, "column": 0}, call, EXAMPLE, ["m:0.Cons\n", text])

    def test_made_up_runs(self):
        more = 0
        for seed, book in some_books(range(25)):
            rnd = random.Random(seed)
            lines = some_run(book, seed, 30)
            foreign = ["m:0.Nope", "word", "", "m:99.A", lines[0] + ".77.A" if lines else "x"]
            texts = []
            for _ in range(3):
                part = [line for line in lines if rnd.random() < 0.6] + rnd.sample(foreign, 2)
                rnd.shuffle(part)
                texts.append(log_text(part + part[:2]))
            words = [word for text in texts for word in text.split("\n") if is_line(word)]
            state = tuple(sorted(done_slowly(book, words)))
            self.assertEqual(held(book, texts), state)
            self.assertEqual(held(book, list(reversed(texts))), state)
            self.assertEqual(left_over(book, texts), tuple(sorted(set(words) - set(state))))
            alone = set(held(book, texts[:1])) | set(held(book, texts[1:2])) | set(held(book, texts[2:]))
            self.assertTrue(alone <= set(state))
            more += len(alone) < len(state)
            # Each state within the logs is in it.
            for text in texts:
                self.assertTrue(set(whole_part(book, lines_in(text))) <= set(state))
        self.assertGreater(more, 5)


class Facts(unittest.TestCase):
    def test_what_was_written_is_read(self):
        rnd = random.Random(5)
        for _ in range(200):
            one = [rnd.choice(GOOD[:9]) for _ in range(rnd.randint(0, 6))]
            two = [rnd.choice(GOOD[:9]) for _ in range(rnd.randint(0, 4))]
            self.assertEqual(lines_in(log_text(one)), tuple(dict.fromkeys(one)))
            text = log_text(one)
            text = text[:rnd.randint(0, len(text))]
            torn = text.rpartition("\n")[2]
            words = list(lines_in(text)) + ([torn] if is_line(torn) else []) + two
            self.assertEqual(lines_in(appended(text, two)), tuple(dict.fromkeys(words)))

    def test_logs_cut_behind_each_sign(self):
        grown = 0
        for seed, book in some_books(range(5)):
            lines = some_run(book, seed, 12)
            text = log_text(lines)
            for n in range(len(text) + 1):
                part = text[:n]
                state = held(book, [part])
                self.assertEqual(state, tuple(sorted(lines_in(part))))
                self.assertTrue(is_state(book, state))
                self.assertEqual(left_over(book, [part]), ())
                # What comes of a torn end is a line that can be done, or nothing; or it was whole.
                behind = held(book, [appended(part, [])])
                new = [line for line in behind if line not in state]
                self.assertLessEqual(len(new), 1)
                for line in new:
                    self.assertIn(line, next_lines(book, state))
                    grown += 1
        self.assertGreater(grown, 20)

    def test_left_over_until_the_past_has_come(self):
        lines = SOME.lines
        for k, line in enumerate(lines):
            others = log_text([one for one in lines if one != line])
            told = held(SOME.book, [others])
            self.assertNotIn(line, told)
            self.assertEqual(tuple(sorted(told + left_over(SOME.book, [others]))),
                             tuple([one for one in lines if one != line]))
            self.assertEqual(held(SOME.book, [others, log_text([line])]), lines)
            self.assertEqual(left_over(SOME.book, [log_text([line]), others]), ())


if __name__ == "__main__":
    unittest.main()
