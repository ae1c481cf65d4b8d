"""[67] and [68]: the forms of deeds."""

import random
import unittest

from namedmeets.deeds import deeds_of
from namedmeets.errors import BadText
from tests.grammars import first_wrong
from tests.helpers import raises
from tests.test_causes import EXAMPLE

GRAMMAR = {"DEED": [
    ["begin", "*A"], ["work", "*A", "*N", "least"], ["work", "*A", "*N", "greatest"],
    ["work", "*A", "*N", "turn", "*N"],
    ["work", "*A", "*N", "share", "*N", "*N"], ["send", "*A", "all"], ["send", "*A", "new"], ["send", "*A", "tops"],
    ["note", "WORDS"], ["tear", "*N", "*N"], ["hand", "*N", "*A"], ["seek", "*N", "*A", "*N"], ["fall", "*A", "*N"],
    ["rise", "*A"], ["clean", "*A"],
], "WORDS": [["*W"], ["*W", "WORDS"]]}
NAMES = ("a", "work", "begin", "b2", "x_Y", "all", "z" * 24)
NUMBERS = ("0", "7", "10", "999999999", "100000000")
WORDS = NAMES + NUMBERS + (
    "least", "greatest", "turn", "share", "new", "tops", "send", "note", "tear", "hand", "seek", "fall", "rise",
    "clean",
    "1000000000", "00", "01", "-1", "-0", "+1", "1.0", "A", "Cons", "a-b", "_a", "1a", "kind", "fun", "let", "in",
    "z" * 25,
    ";", "(", "a;", "(a)", "m:0.A", "#", "Begin", "WORK", "least;", "tops,", "x" * 40, "0" * 9,
)
SORTS = {
    "*A": lambda word: word[0] in "abcdefghijklmnopqrstuvwxyz" and len(word) <= 24 and word.replace("_", "a").isalnum()
    and word not in ("kind", "fun", "let", "in"),
    "*N": lambda word: word.isdigit() and str(int(word)) == word and len(word) <= 9,
    "*W": lambda word: True,
}
DEEDS = ("begin a", "work a 5 least", "work b2 0 greatest", "work work 999999999 turn 3", "work a 7 share 1 2",
    "send a all",
         "send a new", "send a tops", "note x", "note m:0.A ( ; note -1", "tear 0 5", "hand 12 a", "seek 3 a 100",
         "fall a 0",
         "rise a", "clean a", "begin begin", "hand 0 hand", "note note", "work a 0 share 0 0")


def column_of(line):
    """The column at which a line is wrong, None if it is a deed."""
    words, at = [], 0
    for word in line.split(" "):
        if word:
            words.append((word, at + 1))
        at += len(word) + 1
    wrong = first_wrong(GRAMMAR, SORTS, "DEED", [word for word, _ in words])
    if wrong is None:
        return None
    return words[wrong][1] if wrong < len(words) else words[-1][1] + len(words[-1][0])


class Deeds(unittest.TestCase):
    def check(self, line):
        """A line alone, and behind others."""
        column = column_of(line)
        if column is None:
            told = (tuple([word for word in line.split(" ") if word]),)
            self.assertEqual(deeds_of(line), told)
            self.assertEqual(deeds_of(f"{line}\n\nrise x\n"), told + (("rise", "x"),))
        else:
            raises(self, BadText, {"line": 1, "column": column}, deeds_of, line)
            raises(self, BadText, {"line": 3, "column": column}, deeds_of, f"begin a\n  \n{line}\nbegin\n")
        return column

    def test_each_form(self):
        for deed in DEEDS:
            self.assertEqual(deeds_of(deed), (tuple(deed.split(" ")),))
            self.assertEqual(deeds_of(f"  {deed.replace(' ', '   ')}  "), (tuple(deed.split(" ")),))
        told = deeds_of("\n".join(DEEDS))
        self.assertEqual(told, tuple([tuple(deed.split(" ")) for deed in DEEDS]))
        self.assertIs(told.__class__, tuple)
        self.assertIs(told[0].__class__, tuple)
        self.assertEqual(deeds_of("\n".join(DEEDS) + "\n"), told)

    def test_lines_without_words(self):
        for text in ("", "\n", "   ", "\n\n  \n", " \n"):
            self.assertEqual(deeds_of(text), ())
        self.assertEqual(deeds_of("\n begin a \n\n   \nrise a"), (("begin", "a"), ("rise", "a")))
        raises(self, BadText, {"line": 4, "column": 6}, deeds_of, "\nbegin a\n\nrise A\nx")

    def test_by_hand(self):
        for line, column in (
            ("x", 1), ("Begin a", 1), ("  begin", 8), ("begin", 6), ("begin  ", 6), ("begin A", 7), ("begin  kind", 8),
            ("begin a b", 9), ("begin a  ", None), ("begin a ;", 9), ("; begin a", 1), (";", 1), ("begin (", 7),
            ("work", 5), ("work a", 7), ("work a least", 8), ("work a 5", 9), ("work a 5 most", 10),
            ("work a 5 least 3", 16),
            ("work a 5 turn", 14), ("work a 5 turn -1", 15), ("work a 5 share 3", 17), ("work a 5 share 3 x", 18),
            ("work a 5 share 3 4 5", 20), ("work 5 a least", 6), ("work a 1000000000 least", 8),
            ("work a 999999999 least", None), ("work a 05 least", 8), ("work a 000000005 least", 8), ("send a", 7),
            ("send a most", 8), ("send a all all", 12), ("note", 5), ("note ", 5), ("  note", 7), ("note ;", None),
            ("note note note", None), ("tear 0", 7), ("tear a 5", 6), ("tear 0 5 5", 10), ("tear -0 5", 6),
            ("hand a 0", 6),
            ("hand 0 0", 8), ("hand 0", 7), ("seek 0 a", 9), ("seek 0 a x", 10), ("seek 0 1 2", 8),
            ("seek 0 a 1 2", 12),
            ("fall a", 7), ("fall 5 a", 6), ("fall a 1000000000", 8), ("rise", 5), ("rise a a", 8), ("clean", 6),
            ("clean 1", 7),
        ):
            self.assertEqual(self.check(line), column, line)

    def test_each_word_left_out_put_in_exchanged(self):
        wrong = 0
        for deed in DEEDS:
            words = deed.split(" ")
            for k in range(len(words) + 1):
                for word in WORDS:
                    wrong += self.check(" ".join(words[:k] + [word] + words[k:])) is not None
                    wrong += self.check(" ".join(words[:k] + [word] + words[k + 1:])) is not None
                if len(words) > 1:
                    self.check("  ".join(words[:k] + words[k + 1:]))
        self.assertGreater(wrong, 2000)

    def test_words_by_chance(self):
        rnd = random.Random(3)
        right = 0
        for _ in range(3000):
            line = " " * rnd.randint(0, 2)
            for _ in range(rnd.randint(1, 6)):
                line += rnd.choice(WORDS) + " " * rnd.choice([1, 1, 1, 2, 3])
            right += self.check(line if rnd.random() < 0.5 else line.rstrip()) is None
        self.assertGreater(right, 20)

    def test_values_that_are_no_texts(self):
        for text in (None, 5, True, ["begin a"], ("begin", "a"), b"begin a", EXAMPLE):
            raises(self, BadText, {"line": 0, "column": 0}, deeds_of, text)


if __name__ == "__main__":
    unittest.main()
