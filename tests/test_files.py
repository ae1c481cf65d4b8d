"""[88] and [89]: files, and what is wrong with them."""

import unittest

from namedmeets.desk import Desk
from namedmeets.errors import BadName, BadProgram, BadText, BadValue, NoName
from namedmeets.halls import Hall
from namedmeets.nets import Book
from namedmeets.programs import Program, written_program
from namedmeets.values import value_from
from tests.grammars import first_wrong
from tests.helpers import raises
from tests.test_causes import EXAMPLE
from tests.test_deeds import SORTS

LIST = """program p
kind List = Nil | Cons Num List
fun append List List = List
append Nil y = y
append (Cons x t) y = Cons x (append t y)
"""
RUN = """run r on p append
Cons 1 Nil
Cons 2 Nil
"""
HALL = """hall h on r
begin a

work a 1 least
"""
WHOLE = LIST + RUN + HALL
GRAMMAR = {"HEAD": [["program", "*A"], ["run", "*A", "on", "*A", "*A"], ["hall", "*A", "on", "*A"]]}


def is_small(word):
    return word != "" and SORTS["*A"](word)


def column_of(line):
    """The column at which a head line is wrong, None if it is right."""
    words = line.split(" ")
    wrong = first_wrong(GRAMMAR, {"*A": is_small}, "HEAD", words)
    if wrong is None:
        return None
    return len(line) + 1 if wrong == len(words) else len(" ".join(words[:wrong])) + (1 if wrong == 0 else 2)


class Files(unittest.TestCase):
    def test_each_sort_of_item(self):
        desk = Desk(WHOLE)
        self.assertEqual(desk.item_names(), ("p", "r", "h"))
        self.assertEqual(desk.file_text(), WHOLE)
        self.assertEqual(desk.promises(), ())
        self.assertIsInstance(desk.get_program("p"), Program)
        self.assertEqual(written_program(desk.get_program("p")), LIST.partition("\n")[2])
        book = desk.get_book("r")
        self.assertIsInstance(book, Book)
        self.assertEqual((book.name, book.given), ("append", (value_from("Cons 1 Nil"), value_from("Cons 2 Nil"))))
        hall = desk.get_hall("h")
        self.assertIsInstance(hall, Hall)
        self.assertEqual(hall.known_by("a"), ("m:0.Cons",))
        # The text may be passed by name, or left out, and its last line need not end.
        self.assertEqual(Desk(text=WHOLE[:-1]).file_text(), WHOLE)
        for desk in (Desk(), Desk("")):
            self.assertEqual((desk.item_names(), desk.file_text()), ((), ""))

    def test_fresh_each_time(self):
        desk = Desk(WHOLE)
        hall = desk.get_hall("h")
        hall.do("work a 1 least\nbegin b")
        self.assertEqual(desk.get_hall("h").machine_names(), ("a",))
        self.assertEqual(desk.get_hall("h").known_by("a"), ("m:0.Cons",))
        self.assertEqual(desk.holds("h holds a 2"), (False, 1))
        for call, name in ((desk.get_hall, "h"), (desk.get_book, "r"), (desk.get_program, "p")):
            self.assertIsNot(call(name), call(name))

    def test_empty_items_and_lines(self):
        text = "program a\nprogram b\n\n  \n; x\nprogram c\nfun one = Num\none = 1\nrun d on c one\nhall e on d\nhall f on d\n\n\n"
        desk = Desk(text)
        self.assertEqual(desk.item_names(), ("a", "b", "c", "d", "e", "f"))
        self.assertEqual(desk.file_text(), text)
        self.assertEqual(desk.get_program("b").functions, ())
        self.assertEqual(desk.get_hall("f").machine_names(), ())
        self.assertEqual(desk.get_book("d").given, ())

    def test_names_that_are_words_of_head_lines(self):
        text = "program program\nfun run = Num\n run = 1\nrun run on program run\nrun hall on program run\nhall on on hall\nhall x on run\n"
        desk = Desk(text)
        self.assertEqual(desk.item_names(), ("program", "run", "hall", "on", "x"))
        self.assertEqual(desk.file_text(), text)
        self.assertEqual(desk.holds("run gives 1"), (True, None))

    def test_lines_that_are_no_head_lines(self):
        # A row of a function called run begins a run, unless a blank stands ahead of it.
        text = "program p\nfun run Num = Num\n run n = n\nfun programs Num = Num\nprograms n = n\nfun halls = Num\nhalls = 1\n"
        self.assertEqual(len(Desk(text).get_program("p").functions), 3)
        raises(self, BadText, {"line": 3, "column": 7}, Desk, text.replace(" run n", "run n"))
        raises(self, BadText, {"line": 4, "column": 1}, Desk, "program p\nfun hall = Num\n hall = 1\nrun\n")
        raises(self, BadText, {"line": 3, "column": 6}, Desk, "program p\nfun hall = Num\nhall = 1\n")
        raises(self, BadText, {"line": 2, "column": 1}, Desk, "program p\nrun\n")
        raises(self, BadText, {"line": 2, "column": 1}, Desk, "program p\nHall h on r\n")


class HeadLines(unittest.TestCase):
    def test_lines_ahead_of_all_items(self):
        for text, line in (("\n", 1), (" ", 1), ("\n" + WHOLE, 1), (" program p", 1), ("x", 1), ("program", 1),
                ("run", 1), ("hall\n" + LIST, 1),
                           ("; remark\n" + LIST, 1), ("programs p\n", 1), ("kind A = A\nprogram p\n", 1)):
            raises(self, BadText, {"line": line, "column": 1}, Desk, text)

    def test_columns(self):
        for line, column in (
            ("program ", 9), ("program  p", 9), ("program P", 9), ("program kind", 9), ("program p ", 11),
            ("program p q", 11),
            ("program p  ", 11), ("program p1_X", None), ("run ", 5), ("run r", 6), ("run r ", 7), ("run r off", 7),
            ("run r on", 9), ("run r on ", 10),
            ("run r on p", 11), ("run r on p ", 12), ("run r on p F", 12), ("run r on p f g", 14),
            ("run r on P f", 10), ("run  on p f", 5),
            ("run r  on p f", 7), ("run r on  p f", 10), ("run r on p  f", 12), ("run 1 on p f", 5),
            ("run r on p f ", 14), ("hall h", 7),
            ("hall h on", 10), ("hall h on r", None), ("hall h on r s", 13), ("hall h on r ", 13), ("hall h On r", 8),
            ("hall let on r", 6),
            ("hall h on let", 11), ("run r on p f ;", 14), ("program p;", 9), ("program " + "a" * 25, 9),
            ("program " + "a" * 24, None),
        ):
            self.assertEqual(column_of(line), column, line)
            text = f"program z\n\n{line}\n"
            if column is not None:
                raises(self, BadText, {"line": 3, "column": column}, Desk, text)
                raises(self, BadText, {"line": 3, "column": column}, Desk().put, text + "program\nprogram  x")

    def test_each_word_left_out_put_in_exchanged(self):
        wrong = 0
        for head in ("program q", "run s on p append", "hall k on r"):
            words = head.split(" ")
            for k in range(1, len(words) + 1):
                for word in ("", "x", "on", "X", "5", "program", "run", "hall", "kind", "x-y", ";", "(", "a" * 25,
                        "\u00e4"):
                    for new in (words[:k] + [word] + words[k:], words[:k] + [word] + words[k + 1:],
                            words[:k] + words[k + 1:]):
                        line = " ".join(new)
                        column = column_of(line)
                        if " " in line and column is not None:
                            raises(self, BadText, {"line": 9, "column": column}, Desk, LIST + RUN + line)
                            wrong += 1
        self.assertGreater(wrong, 200)

    def test_the_same_name_twice(self):
        for head, column in (("program p", 9), ("run p on p append", 5), ("hall p on r", 6), ("run r on p append", 5),
                ("hall r on r", 6),
                             ("program r", 9), ("program p q", 9), ("run r off", 5), ("hall p", 6)):
            raises(self, BadText, {"line": 9, "column": column}, Desk, LIST + RUN + head)
        # It is the first wrong line that counts.
        raises(self, BadText, {"line": 2, "column": 9}, Desk, "program p\nprogram p\nhall\nhall x")
        raises(self, BadText, {"line": 2, "column": 7}, Desk, "program p\nhall x\nprogram p")
        # A name of the desk is no earlier item of the text.
        desk = Desk(WHOLE)
        desk.put(RUN)
        self.assertEqual(desk.file_text(), WHOLE)

    def test_values_that_are_no_texts(self):
        for text in (None, 5, True, ["program p"], b"program p", EXAMPLE):
            raises(self, BadText, {"line": 0, "column": 0}, Desk, text)
            raises(self, BadText, {"line": 0, "column": 0}, Desk(WHOLE).put, text)


class ItemsOfFiles(unittest.TestCase):
    def test_programs(self):
        for old, new, error, fields in (
            ("append Nil y = y", "append Nil y =", BadText, {"line": 4, "column": 15}),
            ("append Nil y", "Nil y", BadText, {"line": 4, "column": 1}),
            ("append Nil y = y", "append Nil y = x", BadProgram, {"line": 4, "what": "name"}),
            ("append Nil y = y\n", "", BadProgram, {"line": 3, "what": "missing"}),
            ("List = List", "List = Lists", BadProgram, {"line": 3, "what": "kind"}),
            ("kind List = Nil | Cons Num List\n", "", BadProgram, {"line": 2, "what": "kind"}),
        ):
            raises(self, error, fields, Desk, LIST.replace(old, new))
            # Head lines come ahead of what is in items.
            raises(self, BadText, {"line": len(LIST.replace(old, new).split("\n")), "column": 5}, Desk,
                LIST.replace(old, new) + "run R")
            shifted = {**fields, "line": fields["line"] + 2}
            raises(self, error, shifted, Desk, "program z\n\n" + LIST.replace(old, new) + "run r on q f\n5 5")

    def test_runs(self):
        for run, error, fields in (
            ("run r on q append\nNil\nNil", NoName, {"name": "q"}), ("run r on q append\n(", NoName, {"name": "q"}),
            ("run r on r append\n(", NoName, {"name": "r"}), ("run r on z append\n(", NoName, {"name": "z"}),
            ("run r on p append\nNil\n(", BadText, {"line": 8, "column": 2}),
            ("run r on p append\nNil 5 )\n(", BadText, {"line": 7, "column": 7}),
            ("run r on p append\n\nNil\nNil", BadText, {"line": 7, "column": 1}),
            ("run r on p append\nNil\nNil\nNil", BadValue, {"value": (value_from("Nil"),) * 3, "why": "count"}),
            ("run r on p append\nNil\nCons 1\n", BadValue, {"value": value_from("Cons 1"), "why": "kind"}),
            ("run r on p append\n5\nCons 1", BadValue, {"value": 5, "why": "kind"}),
            ("run r on p append\n;\nNil", BadText, {"line": 7, "column": 1}),
            ("run r on p nope\n5", NoName, {"name": "nope"}),
            ("run r on p append\nNil", BadValue, {"value": (value_from("Nil"),), "why": "count"}),
            ("run r on p append", BadValue, {"value": (), "why": "count"}),
            ("run r on p nope\n(", BadText, {"line": 7, "column": 2}),
        ):
            raises(self, error, fields, Desk, LIST + run)
        self.assertEqual(Desk(LIST + "run r on p append\n Nil ; x\nCons 1 Nil;").get_book("r").given,
            (value_from("Nil"), value_from("Cons 1 Nil")))

    def test_halls(self):
        for hall, error, fields in (
            ("hall h on q\nx", NoName, {"name": "q"}), ("hall h on p\nx", NoName, {"name": "p"}),
            ("hall h on h\n", NoName, {"name": "h"}),
            ("hall h on r\nbegin a\n\nwork a", BadText, {"line": 12, "column": 7}),
            ("hall h on r\nx", BadText, {"line": 10, "column": 1}),
            ("hall h on r\n\n  rise 5", BadText, {"line": 11, "column": 8}),
        ):
            raises(self, error, fields, Desk, LIST + RUN + hall)

    def test_items_ahead_of_what_they_are_on(self):
        raises(self, NoName, {"name": "p"}, Desk, RUN + LIST)
        raises(self, NoName, {"name": "r"}, Desk, LIST + HALL + RUN)
        raises(self, NoName, {"name": "r"}, Desk, HALL + LIST + RUN)
        raises(self, NoName, {"name": "h"}, Desk, WHOLE + "run s on h append\nNil\nNil")
        raises(self, NoName, {"name": "r"}, Desk, WHOLE + "run s on r append\nNil\nNil")

    def test_one_item_after_the_other(self):
        wrong_program = "program q\nx\n"
        wrong_run = "run s on p append\n5\nNil\n"
        wrong_hall = "hall k on r\nx\n"
        for text, error in ((wrong_program + wrong_run + wrong_hall, BadText),
                (wrong_run + wrong_program + wrong_hall, BadValue),
                            (wrong_hall + wrong_run + wrong_program, BadText),
                            ("hall k on q\n" + wrong_run + wrong_program, NoName)):
            with self.assertRaises(error) as caught:
                Desk(LIST + RUN + text)
            if error is BadText:
                self.assertEqual(caught.exception.line, 10)
        raises(self, BadName, {"name": 5}, Desk(WHOLE).get_book, 5)


if __name__ == "__main__":
    unittest.main()
