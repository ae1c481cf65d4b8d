"""[63] and [64]: packed logs."""

import random
import unittest

from namedmeets.errors import BadText
from namedmeets.logs import held, is_line, log_text, parent_of
from namedmeets.nets import done_all, started
from namedmeets.packing import packed, unpacked
from namedmeets.states import is_state, whole_part
from tests.helpers import raises
from tests.slownets import some_books, some_run
from tests.test_causes import BOTH, EXAMPLE, SOME
from tests.test_nets import book_of


def as_written(word):
    """Whether a word is an integer from 0 on as it is written."""
    return word.isdigit() and str(int(word)) == word


def slow_unpacked(text):
    """The LINEs of a packed text by the words of [63]."""
    rows, told = text.split("\n")[:-1], []
    for k, row in enumerate(rows):
        words = row.split(" ")
        line = None
        if len(words) == 3 and as_written(words[0]) and 1 <= int(words[0]) <= k:
            above = told[k - int(words[0])]
            if above is not None and is_line(f"{above}.{words[1]}.{words[2]}") and "." not in words[1] + words[2]:
                line = f"{above}.{words[1]}.{words[2]}"
        elif is_line(".".join(words)) and not [word for word in words if "." in word]:
            line = ".".join(words)
        told.append(line)
    return tuple(dict.fromkeys([line for line in told if line is not None]))


class Packed(unittest.TestCase):
    def check(self, lines, text):
        self.assertEqual(packed(lines), text)
        self.assertEqual(packed(tuple(reversed(lines))), text)
        self.assertEqual(packed(list(lines) * 2), text)
        self.assertEqual(unpacked(text), tuple(sorted(set(lines))))
        self.assertIs(unpacked(text).__class__, tuple)

    def test_by_hand(self):
        self.check([], "")
        self.check(["m:0.Cons"], "m:0 Cons\n")
        self.check(BOTH, "m:0 Cons\n1 1 Nil\n")
        self.check(["m:0.Cons.1.Nil"], "m:0 Cons 1 Nil\n")
        self.check(["m:0.A.1.B.2.C"], "m:0 A 1 B 2 C\n")
        # The parent is lacking, while the line above it is there.
        self.check(["m:0.A", "m:0.A.1.B.2.#-3"], "m:0 A\nm:0 A 1 B 2 #-3\n")
        self.check(["m:0.A.0.B", "m:0.A", "m:0.A.1.C", "m:0.A.0.B.0.D", "m:3.#5"],
                   "m:0 A\n1 0 B\n1 0 D\n3 1 C\nm:3 #5\n")
        self.check(["m:10.A", "m:1.A", "m:1.A.10.B", "m:1.A.1.B", "m:1.#-5", "m:1.#5", "m:1.#-5.0.#7"],
                   "m:1 #-5\n1 0 #7\nm:1 #5\nm:1 A\n1 1 B\n2 10 B\nm:10 A\n")
        self.check(SOME.lines, "m:0 #8\n1 0 #3\nm:1 #4\n1 0 #2\nm:3 Node\n1 0 #0\n1 0 #3\n3 1 Leaf\n4 2 #3\n1 0 #0\n6 3 Leaf\n")

    def test_states_of_made_up_runs(self):
        for seed, book in some_books(range(25)):
            lines = some_run(book, seed, 40)
            text = packed(lines)
            self.assertEqual(unpacked(text), tuple(sorted(lines)))
            for row in text.split("\n")[:-1]:
                self.assertEqual(len(row.split(" ")), 2 if row.startswith("m:") else 3)
            rnd = random.Random(seed)
            some = [line for line in lines if rnd.random() < 0.6]
            self.assertEqual(unpacked(packed(some)), tuple(sorted(some)))
            rows = packed(some).split("\n")[:-1]
            for row, line in zip(rows, sorted(some)):
                self.assertEqual(row.startswith("m:"), parent_of(line) not in some)

    def test_long_runs(self):
        book = book_of("ever", "Yes")
        lines = ["m:0.Yes" + ".0.Yes" * k for k in range(300)]
        self.assertEqual(packed(lines), "m:0 Yes\n" + "1 0 Yes\n" * 299)
        self.assertEqual(unpacked(packed(lines)), tuple(lines))
        self.assertTrue(is_state(book, unpacked(packed(lines))))
        run = done_all(book_of("some", 4), started(book_of("some", 4)), 100)[1]
        self.assertEqual(unpacked(packed(run)), run)
        # Near the limits: 300,000 signs, and rows that tell LINEs with as many.
        rows = "".join([f"m:{k} A\n" for k in range(29000)])
        self.assertEqual(len(unpacked(rows)), 29000)
        rows = "m:0 A\n" + "".join([f"{k} {k} #-7\n" for k in range(1, 25000)])
        self.assertEqual(unpacked(rows)[-1], "m:0.A.24999.#-7")
        self.assertEqual(packed(unpacked(rows)).count("\n"), 25000)
        figures = "9" * 100000
        self.assertEqual(unpacked(f"m:0 #{figures}\n1 {figures} #-{figures}\n"),
                         (f"m:0.#{figures}", f"m:0.#{figures}.{figures}.#-{figures}"))
        self.assertEqual(unpacked(f"m:0 A\n{figures} 0 B\n{figures}\n1 0 C\n"), ("m:0.A",))


class Unpacked(unittest.TestCase):
    def test_rows_that_tell_nothing(self):
        for row in (
            "", " ", "  ", "m:0", "m:0 ", "m:0 A ", " m:0 A", "m:0  A", "m:0 A  0 B", "m:0 A 0", "m:0 A 0 ",
            "m:0 A B", "m:0 A B 0",
            "m:0.A", "m:0 A.0.B", "m:0 A 0.B", "m:0.A 0 B", "m: A", "m:00 A", "m:-1 A", "m:x A", "0 A", "m 0 A",
            "m:0 a",
            "m:0 # 1", "m:0 #", "m:0 #-0", "m:0 #01", "m:0 A 00 B", "m:0 A -1 B", "m:0 A x B", "m:0 A 0 b", "A", "word",
            "m:0 " + "A" * 25, "m:0 A,", "m:0 A;",
        ):
            self.assertEqual(unpacked(row + "\n"), (), row)
            self.assertEqual(unpacked(f"m:5 B\n{row}\n1 0 C\n3 1 D\n"), ("m:5.B", "m:5.B.1.D"), row)
            self.assertEqual(slow_unpacked(f"m:5 B\n{row}\n1 0 C\n3 1 D\n"), ("m:5.B", "m:5.B.1.D"), row)

    def test_back(self):
        for row, told in (
            ("1 0 C", "m:1.B.0.C"), ("2 0 C", None), ("3 0 C", "m:0.A.0.C"), ("4 0 C", None), ("5 0 C", None),
            ("0 0 C", None),
            ("-1 0 C", None), ("01 0 C", None), ("1  0 C", None), ("1 0  C", None), (" 1 0 C", None), ("1 0 C ", None),
            ("+1 0 C", None), ("1 0", None), ("1 0 C 1", None), ("1 0 C 1 D", None), ("1 00 C", None), ("1 -1 C", None),
            ("1 0 c", None), ("1 0 #-0", None), ("1 0 #-12", "m:1.B.0.#-12"), ("1 0 C.0.D", None), ("1 0.C 0", None),
            ("1 x C", None),
            ("3 17 #0", "m:0.A.17.#0"), ("9999 0 C", None), ("1" + "0" * 9000 + " 0 C", None),
            ("1 " + "2" * 9000 + " C",
                                                                                           "m:1.B." + "2" * 9000 + ".C"),
            ("1.0 0 C", None), ("x 0 C", None), ("\u0661 0 C", None), ("m:1 0 C", None),
        ):
            whole = ("m:0.A", "m:1.B") + (() if told is None else (told,))
            self.assertEqual(unpacked(f"m:0 A\nm:0 B 1\nm:1 B\n{row}\n"), whole, row[:40])
            # Rows on a row that tells nothing tell nothing, too.
            more = whole if told is None else whole + (told + ".8.#9",)
            self.assertEqual(unpacked(f"m:0 A\nm:0 B 1\nm:1 B\n{row}\n1 8 #9\n"), more, row[:40])
        self.assertEqual(unpacked("1 0 C\n"), ())
        self.assertEqual(unpacked("1 0 C\nm:0 A\n1 0 C\n"), ("m:0.A", "m:0.A.0.C"))

    def test_lines_that_are_told_twice(self):
        self.assertEqual(unpacked("m:0 A\nm:0 A\n1 0 B\n3 0 B\nm:0 A 0 B\n1 1 C\n"),
            ("m:0.A", "m:0.A.0.B", "m:0.A.0.B.1.C"))
        self.assertEqual(unpacked("m:1 B\nm:0 A\nm:1 B\n"), ("m:1.B", "m:0.A"))

    def test_cut_behind_each_sign(self):
        for lines in (SOME.lines, BOTH, ("m:0.A", "m:0.A.12.B.3.#-45", "m:0.A.12.B.3.#-45.6.C")):
            text = packed(lines)
            for n in range(len(text) + 1):
                told = unpacked(text[:n])
                self.assertEqual(told, tuple(sorted(lines))[:text[:n].count("\n")])
                # What the torn end tells when a line feed comes behind it may be anything, but it is a LINE.
                self.assertEqual(unpacked(text[:n] + "\n"), slow_unpacked(text[:n] + "\n"))

    def test_spoilt_texts(self):
        unlike = 0
        for seed, book in some_books(range(20)):
            rnd = random.Random(seed)
            lines = some_run(book, seed, 25)
            for _ in range(20):
                rows = packed(lines).split("\n")
                for _ in range(rnd.randint(1, 4)):
                    at = rnd.randrange(len(rows))
                    if rnd.random() < 0.25:
                        del rows[at]
                    elif rnd.random() < 0.3:
                        rows.insert(at, rnd.choice(rows) if rows else "1 0 A")
                    elif rows and at < len(rows):
                        other = rnd.randrange(len(rows))
                        rows[at], rows[other] = rows[other], rows[at]
                        row = list(rows[at])
                        if row:
                            row[rnd.randrange(len(row))] = rnd.choice("01 #ACm:.-")
                        rows[at] = "".join(row)
                    if not rows:
                        rows = [""]
                text = "\n".join(rows) + rnd.choice(["", "\n"])
                told = unpacked(text)
                self.assertEqual(told, slow_unpacked(text))
                self.assertTrue(all([is_line(line) for line in told]))
                self.assertEqual(len(set(told)), len(told))
                state = held(book, [log_text(told)])
                self.assertEqual(state, whole_part(book, told))
                self.assertTrue(is_state(book, state))
                unlike += told != tuple(sorted(lines))
        self.assertGreater(unlike, 300)

    def test_values_that_are_no_texts(self):
        for text in (None, 5, True, ["m:0 A"], b"m:0 A\n", EXAMPLE):
            raises(self, BadText, {"line": 0, "column": 0}, unpacked, text)
        for text in ("", "m:0 A", "\n\n"):
            self.assertEqual(unpacked(text), ())


if __name__ == "__main__":
    unittest.main()
