"""[5]: words."""

import unittest

from namedmeets.words import is_big, is_number, is_small, words_of


class Names(unittest.TestCase):
    def test_big_names(self):
        for word in ("A", "Z", "M", "Cons", "A1", "A_", "A_b_9Z", "Kind", "Let", "Num", "A" * 24, "Z" + "_" * 23):
            self.assertIs(is_big(word), True, word)

    def test_what_is_no_big_name(self):
        for word in ("", "a", "aB", "_A", "1A", "A" * 25, "A-b", "A b", "A.", "A'", " A", "A ", "A\n", "(", ")", "|",
                     "=", "+", "-1", "0", "A;", "A(", "\u00c4", "A\u00e4", "A\u0661", "@", "[A", "`"):
            self.assertIs(is_big(word), False, word)

    def test_small_names(self):
        for word in ("a", "z", "cons", "a1", "a_", "aB_9Z", "kinds", "lets", "ins", "funs", "i", "kin", "inn",
                     "Kind".lower() + "_", "a" * 24, "z" + "9" * 23):
            self.assertIs(is_small(word), True, word)

    def test_what_is_no_small_name(self):
        for word in ("", "A", "Ab", "_a", "1a", "a" * 25, "a-b", "a b", "a.", " a", "a ", "a\n", "(", "=", "-", "0",
                     "kind", "fun", "let", "in", "\u00e4", "a\u00df", "a\u0661", "{", "`a"):
            self.assertIs(is_small(word), False, word)

    def test_numbers(self):
        for word in ("0", "1", "9", "10", "-1", "-10", "100200", "9" * 400, "-" + "9" * 400, "1" + "0" * 399):
            self.assertIs(is_number(word), True, word)

    def test_what_is_no_number(self):
        for word in ("", "-", "-0", "00", "01", "-01", "0" * 400, "9" * 401, "-" + "1" * 401, "+1", "--1", "1-", "1 ",
                     " 1", "1_0", "1.0", "a", "1a", "-a", "\u0661", "1\u0661", "\u00b2", "1\n", "(", "0x1"):
            self.assertIs(is_number(word), False, word)


class WordsOfLines(unittest.TestCase):
    def test_words_and_columns(self):
        self.assertEqual(words_of("a bc  d"), (("a", 1), ("bc", 3), ("d", 7)))
        self.assertEqual(words_of("  a b "), (("a", 3), ("b", 5)))

    def test_no_words(self):
        for line in ("", " ", "    ", ";", "  ; a b", ";;", ";("):
            self.assertEqual(words_of(line), ())

    def test_parentheses_are_words_by_themselves(self):
        self.assertEqual(
            words_of("(a(b))c"),
            (("(", 1), ("a", 2), ("(", 3), ("b", 4), (")", 5), (")", 6), ("c", 7)),
        )
        self.assertEqual(words_of(")("), ((")", 1), ("(", 2)))
        self.assertEqual(words_of("( )"), (("(", 1), (")", 3)))

    def test_all_other_signs_are_signs_of_words(self):
        self.assertEqual(words_of("a=b |c -> [x] a,b"), (("a=b", 1), ("|c", 5), ("->", 8), ("[x]", 11), ("a,b", 15)))
        self.assertEqual(words_of("a\tb c"), (("a\tb", 1), ("c", 5)))

    def test_remarks_are_left_out(self):
        self.assertEqual(words_of("a b;c d"), (("a", 1), ("b", 3)))
        self.assertEqual(words_of("a ; b ; c"), (("a", 1),))
        self.assertEqual(words_of("(;)"), (("(", 1),))

    def test_a_line_feed_is_a_sign_of_a_word(self):
        self.assertEqual(words_of("a\nb c"), (("a\nb", 1), ("c", 5)))

    def test_the_result_is_a_tuple_of_tuples(self):
        words = words_of("a (b)")
        self.assertIs(words.__class__, tuple)
        for word in words:
            self.assertIs(word.__class__, tuple)
        self.assertIs(words_of("").__class__, tuple)

    def test_long_lines(self):
        words = words_of("ab " * 5000)
        self.assertEqual(len(words), 5000)
        self.assertEqual(words[-1], ("ab", 14998))


if __name__ == "__main__":
    unittest.main()
