"""[92] and [93]: the desk: edits, attempts, trials, undo and redo."""

import random
import unittest

from namedmeets.desk import Desk
from namedmeets.edits import carried
from namedmeets.errors import (
    BadName, BadNumber, BadProgram, BadText, BadValue, JoinError, NoName, NotKept, NothingToRedo, NothingToUndo,
    TakenName,
)
from namedmeets.logs import held
from namedmeets.programs import written_program
from namedmeets.values import value_from, written_value
from tests.helpers import raises
from tests.test_causes import EXAMPLE
from tests.test_files import HALL, LIST, RUN, WHOLE

STRINGS = (None, 5, True, ["p"], b"p", ("p",), EXAMPLE)
OTHER = LIST.replace("program p", "program q").replace("Cons x (append t y)", "append t (Cons x y)")


def told(desk):
    return desk.file_text(), desk.promises()


class Checked(unittest.TestCase):
    def fails(self, desk, error, fields, call, *arguments):
        """A call that raises an error and changes nothing."""
        before = told(desk)
        raises(self, error, fields, call, *arguments)
        self.assertEqual(told(desk), before)

    def depths(self, desk):
        """How many edits can be taken back, and be done again; the desk is left as it was."""
        here, backs, ahead = told(desk), 0, 0
        with self.assertRaises(NothingToUndo):
            while True:
                desk.undo()
                backs += 1
        for _ in range(backs):
            desk.redo()
        self.assertEqual(told(desk), here)
        with self.assertRaises(NothingToRedo):
            while True:
                desk.redo()
                ahead += 1
        for _ in range(ahead):
            desk.undo()
        self.assertEqual(told(desk), here)
        return backs, ahead


class Putting(Checked):
    def test_places_of_items(self):
        desk = Desk(WHOLE)
        self.assertIsNone(desk.put(OTHER))
        self.assertEqual(desk.file_text(), WHOLE + OTHER)
        # Each one takes the place of the item with its name.
        desk.put("hall k on r\nbegin z\n" + OTHER.replace("program q", "program p") + "run r on p append\nNil\nNil\n")
        self.assertEqual(desk.item_names(), ("p", "r", "h", "q", "k"))
        self.assertEqual(desk.get_book("r").given, (value_from("Nil"), value_from("Nil")))
        self.assertIn("append t (Cons x y)", written_program(desk.get_program("p")))
        self.assertEqual(desk.get_hall("k").machine_names(), ("z",))
        desk.put("")
        self.assertEqual(desk.item_names(), ("p", "r", "h", "q", "k"))
        self.assertEqual(self.depths(desk), (3, 0))

    def test_items_on_it_are_read_again(self):
        desk = Desk(WHOLE)
        self.assertEqual(desk.get_hall("h").state_by("a"), ("m:0.Cons",))
        desk.put(LIST.replace("append (Cons x t) y = Cons x (append t y)", "append (Cons x t) y = Cons 5 y"))
        self.assertEqual(desk.holds("r gives Cons 5 (Cons 2 Nil)"), (True, None))
        desk.put("run r on p append\nNil\nNil\n")
        self.assertEqual(desk.get_hall("h").state_by("a"), ("m:0.Nil",))
        self.assertEqual(desk.holds("h answers a"), (True, None))
        # Books of items that are read again are those of the new program.
        desk.put("program p\nkind List = Nil\nfun append List List = List\nappend a b = b\n")
        self.assertEqual(desk.get_book("r").flat.functions, ())
        self.assertEqual(desk.get_hall("h").state_by("a"), ("m:0.Nil",))
        self.assertEqual(desk.holds("h answers a"), (True, None))

    def test_errors_of_files(self):
        desk = Desk(WHOLE)
        for text, error, fields in (
            ("x", BadText, {"line": 1, "column": 1}), ("program q\nprogram q", BadText, {"line": 2, "column": 9}),
            ("program q\nx", BadText, {"line": 2, "column": 1}), ("run s on p append\nNil\n(", BadText,
                {"line": 3, "column": 2}),
            ("run s on q append\n", NoName, {"name": "q"}), ("hall k on p\n", NoName, {"name": "p"}),
            ("hall k on r\n\nrise", BadText, {"line": 3, "column": 5}),
            ("run s on p append\nNil", BadValue, {"value": (value_from("Nil"),), "why": "count"}),
            ("run s on p nope\n", NoName, {"name": "nope"}),
            # The new program stands behind the run that is on it.
            ("run r on q append\nNil\nNil\n" + OTHER, NoName, {"name": "q"}),
            (OTHER + "run r on q append\nNil\nNil\n", NoName, {"name": "q"}),
            (OTHER + "run s on q append\nNil\nNil\nx", BadText, {"line": 9, "column": 1}),
        ):
            self.fails(desk, error, fields, desk.put, text)
        self.assertEqual(self.depths(desk), (0, 0))

    def test_errors_of_items_that_are_read_again(self):
        desk = Desk("program z\n" + WHOLE)
        # The run is read again; lines are counted from its head line.
        self.fails(desk, BadValue, {"value": value_from("Cons 1 Nil"), "why": "kind"}, desk.put,
                   "program p\nkind List = Nil | Cons Num Num\nfun append List List = List\nappend a b = b\n")
        self.fails(desk, NoName, {"name": "append"}, desk.put, "program p\n")
        # What was a program is a run now: what is on it finds no program.
        desk.put("program z\nfun one = Num\none = 1\n")
        self.fails(desk, NoName, {"name": "p"}, desk.put, "run p on z one\n")
        self.fails(desk, NoName, {"name": "r"}, desk.put, "program r\n")
        # Errors come in the order of the desk: the item that is read again ahead of the new one behind it.
        self.fails(desk, NoName, {"name": "append"}, desk.put, "program y\nx\nprogram p\n")
        self.fails(desk, BadText, {"line": 2, "column": 1}, desk.put,
            "program p\nx\nprogram z\nfun one = Num\none = 1\n")
        self.fails(desk, BadText, {"line": 4, "column": 1}, desk.put, "program p\nx\nprogram z\nx\n")
        text = "program p\nkind List = Nil | Cons Num List\nfun append List List = List\nappend a b = b\nrun r on p append\nNil\n5\n"
        self.fails(desk, BadValue, {"value": 5, "why": "kind"}, desk.put, text)

    def test_lines_of_items_that_are_read_again(self):
        desk = Desk(WHOLE + "program q\n\n\nfun f Num = Num\nf n = n\n")
        # No reading anew can fail by a text that was right; an edit can, and counts from the head line.
        self.fails(desk, BadText, {"line": 4, "column": 4}, desk.edit, "q", 4, "f n")
        self.fails(desk, BadProgram, {"line": 4, "what": "name"}, desk.edit, "q", 4, "f n = g")
        self.fails(desk, BadText, {"line": 2, "column": 1}, desk.edit, "r", 2, ")")
        self.fails(desk, BadText, {"line": 3, "column": 7}, desk.edit, "h", 3, "work  A")


class Editing(Checked):
    def test_lines(self):
        base = "hall k on r\nbegin a\nbegin b\nbegin c\n"
        for number, text, lines in (
            (1, "rise a", ["rise a", "begin b", "begin c"]), (2, "rise a\n", ["begin a", "rise a", "begin c"]),
            (3, "", ["begin a", "begin b"]),
            (1, "", ["begin b", "begin c"]), (4, "", ["begin a", "begin b", "begin c"]),
            (4, "rise a", ["begin a", "begin b", "begin c", "rise a"]),
            (2, "\n", ["begin a", "", "begin c"]), (2, "rise a\nrise b", ["begin a", "rise a", "rise b", "begin c"]),
            (2, "rise a\n\n", ["begin a", "rise a", "", "begin c"]), (4, "\n\n",
                ["begin a", "begin b", "begin c", "", ""]), (2, "  ", ["begin a", "  ", "begin c"]),
        ):
            desk = Desk(LIST + RUN + base)
            self.assertIsNone(desk.edit("k", number, text))
            self.assertEqual(desk.file_text(), LIST + RUN + "hall k on r\n" + "".join([line + "\n" for line in lines]))
            self.assertEqual(self.depths(desk), (1, 0))
        desk = Desk("program p\n")
        desk.edit("p", 1, "fun one = Num\none = 1")
        self.assertEqual(desk.file_text(), "program p\nfun one = Num\none = 1\n")

    def test_items_on_it_are_read_again(self):
        desk = Desk(WHOLE)
        desk.edit("p", 4, "append (Cons x t) y = Cons 9 y")
        self.assertEqual(desk.holds("r gives Cons 9 (Cons 2 Nil)"), (True, None))
        desk.edit("r", 1, "Nil")
        self.assertEqual(desk.get_hall("h").state_by("a"), ("m:0.Nil",))
        self.fails(desk, BadText, {"line": 3, "column": 1}, desk.edit, "p", 2, "fun glue List List = List")

    def test_errors(self):
        desk = Desk(WHOLE)
        for name in STRINGS:
            self.fails(desk, BadName, {"name": name}, desk.edit, name, None, None)
        for text in STRINGS:
            self.fails(desk, BadText, {"line": 0, "column": 0}, desk.edit, "nope", 99, text)
        for name in ("x", "", "P", " p", "append"):
            self.fails(desk, NoName, {"name": name}, desk.edit, name, 99, "run a")
        for name, most in (("p", 5), ("r", 3), ("h", 4)):
            for number in (0, -1, most + 1, 99, True, False, None, "1", 1.0):
                self.fails(desk, BadNumber, {"what": "line", "number": number}, desk.edit, name, number, "run a")
        for text, line in (("run x", 1), ("program ", 1), ("hall  ", 1), ("\nx\nrun r on p append", 3),
                ("x\nprogram p\nhall q", 2)):
            self.fails(desk, BadText, {"line": line, "column": 1}, desk.edit, "p", 1, text)
        self.fails(desk, BadText, {"line": 1, "column": 1}, desk.edit, "p", 1, "run")
        self.fails(desk, BadText, {"line": 2, "column": 1}, desk.edit, "p", 1, "\nhalls x")
        self.fails(desk, BadText, {"line": 6, "column": 1}, desk.edit, "p", 5, "\nrun\n")
        self.fails(desk, BadValue, {"value": (value_from("Cons 1 Nil"),), "why": "count"}, desk.edit, "r", 2, "")
        self.fails(desk, BadText, {"line": 3, "column": 1}, desk.edit, "r", 3, "x")
        self.fails(desk, BadText, {"line": 4, "column": 7}, desk.edit, "h", 4, "begin 5")
        self.assertEqual(self.depths(desk), (0, 0))


class DroppingAndRenaming(Checked):
    def test_drop(self):
        desk = Desk(WHOLE + "hall k on r\n" + OTHER)
        for name, item in (("p", "r"), ("r", "h")):
            self.fails(desk, TakenName, {"name": item}, desk.drop, name)
        for name in ("x", "", "P", "append"):
            self.fails(desk, NoName, {"name": name}, desk.drop, name)
        for name in STRINGS:
            self.fails(desk, BadName, {"name": name}, desk.drop, name)
        desk.keep("h holds a 1")
        desk.keep("k double 0")
        desk.keep("r within 2")
        self.assertIsNone(desk.drop("h"))
        self.assertEqual(desk.item_names(), ("p", "r", "k", "q"))
        self.assertEqual(desk.promises(), ("k double 0", "r within 2"))
        for name in ("k", "r", "p", "q"):
            desk.drop(name)
        self.assertEqual(told(desk), ("", ()))
        self.assertEqual(self.depths(desk), (8, 0))
        for _ in range(5):
            desk.undo()
        self.assertEqual(desk.promises(), ("h holds a 1", "k double 0", "r within 2"))

    def test_rename(self):
        desk = Desk(WHOLE + "hall k on r\nrun s on p append\nNil\nNil\n")
        for promise in ("r within 2", "h holds a 1", "s gives Nil", "k double 0"):
            desk.keep(promise)
        self.assertIsNone(desk.rename("r", "rr"))
        self.assertEqual(desk.item_names(), ("p", "rr", "h", "k", "s"))
        self.assertEqual(desk.promises(), ("rr within 2", "h holds a 1", "s gives Nil", "k double 0"))
        text = WHOLE.replace("run r on", "run rr on").replace("hall h on r",
            "hall h on rr") + "hall k on rr\nrun s on p append\nNil\nNil\n"
        self.assertEqual(desk.file_text(), text)
        desk.rename("p", "on")
        desk.rename("s", "within")
        desk.rename("h", "holds")
        self.assertEqual(desk.promises(), ("rr within 2", "holds holds a 1", "within gives Nil", "k double 0"))
        self.assertEqual(desk.broken(), ())
        text = text.replace("program p", "program on").replace("run rr on p", "run rr on on").replace("hall h on",
            "hall holds on")
        text = text.replace("run s on p", "run within on on")
        self.assertEqual(desk.file_text(), text)
        self.assertEqual(Desk(text).item_names(), desk.item_names())
        # Behind it the items are found by their new names.
        desk.edit("on", 4, "append (Cons x t) y = Cons x y")
        self.assertEqual(desk.get_hall("holds").state_by("a"), ("m:0.Cons",))
        self.assertEqual(desk.holds("rr gives Cons 1 (Cons 2 Nil)"), (True, None))
        raises(self, NoName, {"name": "r"}, desk.get_book, "r")
        self.assertEqual(self.depths(desk), (9, 0))

    def test_errors_of_rename(self):
        desk = Desk(WHOLE)
        for new in STRINGS + ("", "X", "x y", " x", "kind", "let", "1", "x-y", "x" * 25):
            for name in ("p", "nope", None):
                self.fails(desk, BadName, {"name": new}, desk.rename, name, new)
        for name in STRINGS:
            self.fails(desk, BadName, {"name": name}, desk.rename, name, "p")
        for name in ("nope", "", "P"):
            for new in ("x", "p"):
                self.fails(desk, NoName, {"name": name}, desk.rename, name, new)
        for name, new in (("p", "p"), ("p", "r"), ("r", "h"), ("h", "h")):
            self.fails(desk, TakenName, {"name": new}, desk.rename, name, new)
        self.assertEqual(self.depths(desk), (0, 0))


class Promising(Checked):
    def test_keep_and_release(self):
        desk = Desk(WHOLE)
        self.assertIsNone(desk.keep("r within 2"))
        desk.keep("h holds a 1")
        desk.keep("r within 2")
        self.assertEqual(desk.promises(), ("r within 2", "h holds a 1"))
        desk.keep("r within 20")
        self.assertEqual(desk.promises(), ("r within 2", "h holds a 1", "r within 20"))
        self.assertIsNone(desk.release("r within 2"))
        self.assertEqual(desk.promises(), ("h holds a 1", "r within 20"))
        # A call that changes nothing is an edit, too.
        self.assertEqual(self.depths(desk), (5, 0))
        for promise in ("r within 2", "", "x", "r within  20", "h holds a"):
            self.fails(desk, NoName, {"name": promise}, desk.release, promise)
        for promise in STRINGS:
            self.fails(desk, BadText, {"line": 0, "column": 0}, desk.release, promise)
            self.fails(desk, BadText, {"line": 0, "column": 0}, desk.keep, promise)
            self.fails(desk, BadText, {"line": 0, "column": 0}, desk.holds, promise)

    def test_promises_that_are_not_kept(self):
        desk = Desk(WHOLE)
        for promise, witness in (("r within 1", 2), ("r gives Nil", "Cons 1 (Cons 2 Nil)"),
                ("h answers a", "m:0.Cons.1.Nil"), ("h holds a 2", 1),
                                 ("r spares 1", ("a1", "a1:0", "a1:1")), ("h outlives 1 1", 0)):
            self.fails(desk, NotKept, {"promise": promise, "witness": witness}, desk.keep, promise)
        desk.keep("r within 2")
        desk.keep("r gives Cons 1 (Cons 2 Nil)")
        desk.keep("h holds a 1")
        # The first one that is not kept any more is told, in the order in which they were made.
        self.fails(desk, NotKept, {"promise": "r within 2", "witness": 3}, desk.edit, "r", 1, "Cons 1 (Cons 3 Nil)")
        self.fails(desk, NotKept, {"promise": "r gives Cons 1 (Cons 2 Nil)", "witness": "Cons 5 (Cons 2 Nil)"},
            desk.edit, "r", 1, "Cons 5 Nil")
        self.fails(desk, NotKept, {"promise": "h holds a 1", "witness": 0}, desk.put, "hall h on r\nbegin a\n")
        self.fails(desk, NotKept, {"promise": "r within 2", "witness": None}, desk.edit, "p", 4,
            "append (Cons x t) y = append (Cons x t) y")
        self.assertEqual(self.depths(desk), (3, 0))
        desk.edit("r", 1, "Cons 1 Nil ; the same")
        desk.put("hall h on r\nbegin a\nwork a 2 greatest\n")
        self.assertEqual(self.depths(desk), (5, 0))

    def test_promises_that_can_no_longer_be_asked(self):
        desk = Desk(WHOLE + "program q\nfun f Num Num Num = Num\nf a b c = a\nrun s on q f\n1\n2\n3\n")
        desk.keep("s spares 2")
        desk.keep("h holds a 1")
        desk.keep("r within 5")
        self.fails(desk, NoName, {"name": "a"}, desk.put, "hall h on r\nbegin b\n")
        self.fails(desk, NoName, {"name": "h"}, desk.put, "program h\n")
        self.fails(desk, BadNumber, {"what": "argument", "number": 2}, desk.put,
            "program q\nfun f Num Num = Num\nf a b = a\nrun s on q f\n1\n2\n")
        self.fails(desk, NotKept, {"promise": "s spares 2", "witness": ("a2",)}, desk.edit, "q", 2, "f a b c = + a c")
        self.assertEqual(desk.broken(), ())

        def spoil(it):
            it.put("program h\n")
            raises(self, NoName, {"name": "h"}, it.broken)
            raises(self, NoName, {"name": "h"}, it.holds, "h holds a 1")
            raises(self, NoName, {"name": "h"}, it.keep, "h holds a 1")
            it.edit("q", 2, "f a b c = + a c")
            # What is asked first comes first.
            raises(self, NoName, {"name": "h"}, it.broken)
            it.release("h holds a 1")
            return it.broken()

        self.assertEqual(desk.trial(spoil), (("s spares 2", ("a2",)),))
        self.assertEqual(desk.promises(), ("s spares 2", "h holds a 1", "r within 5"))

    def test_get_errors(self):
        desk = Desk(WHOLE)
        for call, good in ((desk.get_program, "p"), (desk.get_book, "r"), (desk.get_hall, "h")):
            for name in ("p", "r", "h", "x", "", "P"):
                if name != good:
                    raises(self, NoName, {"name": name}, call, name)
            for name in STRINGS:
                raises(self, BadName, {"name": name}, call, name)

    def test_spared(self):
        text = WHOLE + OTHER + ("run s on q append\nCons 1 Nil\nCons 2 Nil\nrun t on p append\nCons 9 (Cons 2 Nil)\nNil\nhall k on r\nbegin a\nbegin b\n"
                                "work a 1 least\nsend a all\nwork a 1 least\nhand 0 b\nnote m:9.A\nhand 1 b\nfall a 1\n")
        desk = Desk(text)
        for hall, run, lines in (("h", "r", ("m:0.Cons",)), ("h", "s", ()), ("h", "t", ("m:0.Cons",)),
                ("k", "r", ("m:0.Cons",)), ("k", "t", ("m:0.Cons",))):
            self.assertEqual(desk.spared(hall, run), lines)
            played = desk.get_hall(hall)
            logs = [played.log_by(name) for name in played.machine_names()]
            self.assertEqual(desk.spared(hall, run), carried(played.book, desk.get_book(run), held(played.book, logs)))
        desk.edit("k", 8, "")
        desk.edit("k", 8, "work b 1 least")
        self.assertEqual(desk.spared("k", "r"), ("m:0.Cons", "m:0.Cons.1.Nil"))
        self.assertEqual(desk.spared("k", "t"), ("m:0.Cons",))
        for hall in STRINGS:
            raises(self, BadName, {"name": hall}, desk.spared, hall, None)
            raises(self, BadName, {"name": hall}, desk.spared, "nope", hall)
        for hall, run, name in (("x", "y", "x"), ("r", "r", "r"), ("h", "y", "y"), ("h", "h", "h"), ("p", "r", "p"),
                ("h", "p", "p"), ("", "r", "")):
            raises(self, NoName, {"name": name}, desk.spared, hall, run)


class UndoAndRedo(Checked):
    def test_each_edit(self):
        desk = Desk(WHOLE)
        steps = [lambda: desk.put(OTHER), lambda: desk.edit("r", 1, "Nil"), lambda: desk.keep("r gives Cons 2 Nil"),
            lambda: desk.rename("q", "z"),
                 lambda: desk.drop("z"), lambda: desk.put(""), lambda: desk.release("r gives Cons 2 Nil"),
                 lambda: desk.rename("r", "s"),
                 lambda: desk.attempt(lambda it: None), lambda: desk.edit("h", 3, "")]
        moments = [told(desk)]
        self.assertRaises(NothingToUndo, desk.undo)
        for step in steps:
            step()
            moments.append(told(desk))
            self.assertRaises(NothingToRedo, desk.redo)
        for moment in reversed(moments[:-1]):
            self.assertIsNone(desk.undo())
            self.assertEqual(told(desk), moment)
        with self.assertRaises(NothingToUndo) as caught:
            desk.undo()
        self.assertIs(caught.exception.__class__, NothingToUndo)
        for moment in moments[1:]:
            self.assertIsNone(desk.redo())
            self.assertEqual(told(desk), moment)
        self.assertRaises(NothingToRedo, desk.redo)
        self.assertEqual(self.depths(desk), (10, 0))

    def test_redo_behind_a_new_edit(self):
        desk = Desk(WHOLE)
        desk.edit("r", 1, "Nil")
        desk.edit("r", 2, "Nil")
        desk.undo()
        self.assertEqual(self.depths(desk), (1, 1))
        # Calls that raise, that ask, and trials change nothing of what can be done again.
        raises(self, NoName, {"name": "x"}, desk.drop, "x")
        desk.holds("r within 5")
        desk.trial(lambda it: it.drop("h"))
        raises(self, NoName, {"name": "x"}, desk.attempt, lambda it: it.drop("x"))
        self.assertEqual(self.depths(desk), (1, 1))
        desk.put("")
        self.assertEqual(self.depths(desk), (2, 0))
        desk.undo()
        desk.undo()
        self.assertEqual(told(desk), (WHOLE, ()))
        desk.attempt(lambda it: None)
        self.assertEqual(self.depths(desk), (1, 0))

    def test_what_stood_is_read_as_it_was(self):
        desk = Desk(WHOLE)
        desk.edit("p", 4, "append (Cons x t) y = Cons 9 y")
        desk.undo()
        self.assertEqual(desk.holds("r gives Cons 1 (Cons 2 Nil)"), (True, None))
        desk.redo()
        self.assertEqual(desk.holds("r gives Cons 9 (Cons 2 Nil)"), (True, None))


class Attempts(Checked):
    def test_one_edit(self):
        desk = Desk(WHOLE)
        desk.keep("r within 2")

        def action(it):
            self.assertIs(it, desk)
            it.edit("r", 1, "Cons 1 (Cons 3 Nil)")
            self.assertEqual(it.broken(), (("r within 2", 3),))
            it.edit("r", 2, "Nil")
            it.edit("r", 1, "Nil")
            return "done"

        before = told(desk)
        self.assertEqual(desk.attempt(action), "done")
        self.assertEqual(self.depths(desk), (2, 0))
        desk.undo()
        self.assertEqual(told(desk), before)
        desk.redo()
        self.assertEqual(written_value(desk.get_book("r").given[0]), "Nil")

    def test_promises_at_the_end(self):
        desk = Desk(WHOLE)
        desk.keep("r within 2")
        desk.edit("h", 4, "")
        desk.undo()

        def action(it):
            it.keep("h holds a 1")
            it.edit("r", 1, "Cons 1 (Cons 3 Nil)")

        self.fails(desk, NotKept, {"promise": "r within 2", "witness": 3}, desk.attempt, action)
        self.assertEqual(self.depths(desk), (1, 1))
        self.fails(desk, NoName, {"name": "r"}, desk.attempt, lambda it: [it.drop("h"), it.put("program r\n")])
        self.fails(desk, NoName, {"name": "a"}, desk.attempt,
            lambda it: [it.keep("h holds a 1"), it.put("hall h on r\n")])
        self.assertEqual(self.depths(desk), (1, 1))

        def mend(it):
            it.keep("r within 0")
            self.assertEqual(it.broken(), (("r within 0", 2),))
            it.edit("r", 1, "Nil")
            it.put("program p\nkind List = Nil | Cons Num List\nfun append List List = List\nappend a b = Nil\n")
            it.release("r within 2")

        self.fails(desk, NotKept, {"promise": "r within 0", "witness": 4}, desk.attempt, mend)
        # keep raises the errors of promises at once, everywhere.
        def wrong(it):
            raises(self, NoName, {"name": "b"}, it.keep, "h holds b 1")
            raises(self, BadText, {"line": 1, "column": 3}, it.keep, "h x")
            raises(self, BadNumber, {"what": "argument", "number": 7}, it.keep, "r spares 7")
            return it.promises()

        self.assertEqual(desk.attempt(wrong), ("r within 2",))
        self.assertEqual(self.depths(desk), (2, 0))

    def test_errors_in_them(self):
        desk = Desk(WHOLE)
        desk.edit("r", 1, "Nil")
        desk.edit("r", 2, "Nil")
        desk.undo()
        for error in (ValueError("x"), KeyError(5), JoinError(), NoName("x"), RuntimeError(), ZeroDivisionError(),
                StopIteration(), NotKept("a", 1)):
            def action(it, one=error):
                it.put(OTHER)
                it.undo()
                it.rename("h", "k")
                it.keep("k holds a 9")
                raise one

            before = told(desk)
            for call in (desk.attempt, desk.trial):
                with self.assertRaises(error.__class__) as caught:
                    call(action)
                self.assertIs(caught.exception, error)
                self.assertEqual(told(desk), before)
                self.assertEqual(self.depths(desk), (1, 1))
        # Errors that the function catches itself change nothing.
        def catching(it):
            for call in (lambda: it.drop("p"), lambda: it.edit("r", 9, ""), lambda: it.put("x"), it.undo, it.redo,
                    lambda: it.get_hall("p")):
                try:
                    call()
                except JoinError:
                    it.put("")
            return len(it.item_names())

        before = told(desk)
        self.assertEqual(desk.attempt(catching), 3)
        self.assertEqual(told(desk), before)
        self.assertEqual(self.depths(desk), (2, 0))

    def test_undo_and_redo_within(self):
        desk = Desk(WHOLE)
        desk.edit("r", 1, "Nil")
        desk.edit("r", 2, "Nil")
        desk.undo()
        here = told(desk)

        def action(it):
            # It knows its own edits alone.
            self.assertRaises(NothingToUndo, it.undo)
            self.assertRaises(NothingToRedo, it.redo)
            it.drop("h")
            it.put(OTHER)
            self.assertEqual(self.depths(it), (2, 0))
            it.undo()
            it.undo()
            self.assertEqual(told(it), here)
            self.assertEqual(self.depths(it), (0, 2))
            it.redo()
            return self.depths(it)

        self.assertEqual(desk.trial(action), (1, 1))
        self.assertEqual(told(desk), here)
        self.assertEqual(self.depths(desk), (1, 1))
        self.assertEqual(desk.attempt(action), (1, 1))
        self.assertEqual(desk.item_names(), ("p", "r"))
        self.assertEqual(self.depths(desk), (2, 0))
        desk.undo()
        self.assertEqual(told(desk), here)
        self.assertEqual(self.depths(desk), (1, 1))

    def test_undo_looks_at_no_promises(self):
        desk = Desk(WHOLE)

        def action(it):
            it.edit("r", 1, "Cons 1 (Cons 3 Nil)")
            it.edit("r", 1, "Nil")
            it.undo()
            it.keep("r within 0")
            it.undo()
            it.redo()
            return it.broken()

        self.assertEqual(desk.trial(action), (("r within 0", 3),))

    def test_one_in_another(self):
        desk = Desk(WHOLE)
        desk.keep("r within 2")
        long = "Cons 1 (Cons 3 Nil)"

        def inner(it):
            it.edit("r", 1, long)
            it.put("")

        def outer(it):
            it.put(OTHER)
            # No promises are looked at at the end of an attempt that stands in another one.
            it.attempt(inner)
            self.assertEqual(it.broken(), (("r within 2", 3),))
            self.assertEqual(self.depths(it), (2, 0))
            it.undo()
            self.assertEqual(it.broken(), ())
            it.redo()
            self.assertEqual(it.broken(), (("r within 2", 3),))
            # A trial within leaves nothing behind, an attempt that fails neither.
            it.trial(lambda that: that.drop("h"))
            with self.assertRaises(NoName):
                it.attempt(lambda that: [that.drop("h"), that.drop("h")])
            self.assertEqual(self.depths(it), (2, 0))
            it.attempt(lambda that: None)
            self.assertEqual(self.depths(it), (3, 0))
            return it.item_names()

        self.fails(desk, NotKept, {"promise": "r within 2", "witness": 3}, desk.attempt, outer)
        self.assertEqual(self.depths(desk), (1, 0))
        # In a trial not even the outermost attempt looks.
        self.assertEqual(desk.trial(lambda it: it.attempt(outer)), ("p", "r", "h", "q"))
        self.assertEqual(desk.trial(outer), ("p", "r", "h", "q"))
        self.assertEqual(told(desk), (WHOLE, ("r within 2",)))
        self.assertEqual(desk.attempt(lambda it: it.trial(outer)), ("p", "r", "h", "q"))
        self.assertEqual(self.depths(desk), (2, 0))
        # Behind all of them promises are looked at again.
        self.fails(desk, NotKept, {"promise": "r within 2", "witness": 3}, desk.edit, "r", 1, long)

    def test_trials(self):
        desk = Desk(WHOLE)
        desk.keep("r within 2")
        before = told(desk)

        def action(it):
            self.assertIs(it, desk)
            it.edit("r", 1, "Cons 1 (Cons 3 Nil)")
            it.drop("h")
            return it.broken(), it.item_names()

        self.assertEqual(desk.trial(action), ((("r within 2", 3),), ("p", "r")))
        self.assertEqual(told(desk), before)
        self.assertEqual(self.depths(desk), (1, 0))
        self.assertIsNone(desk.trial(lambda it: None))
        self.assertEqual(self.depths(desk), (1, 0))

    def test_edits_by_chance(self):
        # A row of edits, some of them wrong, against a list of moments.
        for seed in range(30):
            rnd = random.Random(seed)
            desk = Desk(WHOLE)
            moments, at = [told(desk)], 0
            for _ in range(40):
                draw = rnd.random()
                if draw < 0.2 and at > 0:
                    desk.undo()
                    at -= 1
                elif draw < 0.35 and at < len(moments) - 1:
                    desk.redo()
                    at += 1
                else:
                    call = rnd.choice([
                        lambda: desk.put(rnd.choice([OTHER, RUN, HALL, LIST, "", "program p\n",
                            RUN.replace("Cons 1", "Cons 5"), "hall k on r\n"])),
                        lambda: desk.edit(rnd.choice("prhqkz"), rnd.randint(0, 6),
                            rnd.choice(["", "Nil", "; x", "begin b", "Cons 1 Nil\n"])),
                        lambda: desk.drop(rnd.choice("prhqkz")),
                        lambda: desk.rename(rnd.choice("prhqkz"), rnd.choice("prhqkz")),
                        lambda: desk.keep(rnd.choice(["r within 2", "r spares 0", "h holds a 1", "k double 0",
                            "z within 5", "r gives Nil"])),
                        lambda: desk.release(rnd.choice(["r within 2", "h holds a 1", "k double 0"])),
                        lambda: desk.attempt(lambda it: [it.put(HALL),
                            it.edit("r", 1, rnd.choice(["Nil", "x", "Cons 3 Nil"]))]),
                    ])
                    try:
                        call()
                        moments, at = moments[:at + 1] + [told(desk)], at + 1
                    except JoinError:
                        pass
                self.assertEqual(told(desk), moments[at])
                self.assertEqual(desk.broken(), ())
                # The file is that of a desk which reads it anew.
                again = Desk(desk.file_text())
                self.assertEqual((again.file_text(), again.item_names()), (desk.file_text(), desk.item_names()))
            self.assertEqual(self.depths(desk), (at, len(moments) - 1 - at))


if __name__ == "__main__":
    unittest.main()
