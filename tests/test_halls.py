"""[65] to [67]: halls, deed by deed."""

import random
import unittest

from namedmeets.errors import BadNumber, BadText, NoName
from namedmeets.halls import Hall, hall_of
from namedmeets.logs import held, lines_in, log_text
from namedmeets.states import next_lines, whole_part
from tests.helpers import raises
from tests.slowhalls import SlowHall, some_weaving
from tests.slownets import some_books, some_run
from tests.test_causes import BOTH, EXAMPLE, SOME
from tests.test_nets import book_of

BOOK = SOME.book


def told(hall):
    """All that a hall tells."""
    machines = [(name, hall.is_up(name), hall.known_by(name), hall.state_by(name), hall.log_by(name),
        hall.made_by(name))
                for name in hall.machine_names()]
    return machines, [hall.letter_text(k) for k in range(hall.letters_sent())], hall.double_work()


def told_slowly(slow):
    machines = [(name, slow.up[name], tuple(slow.lines_known(name)), tuple(slow.state(name)), slow.logs[name],
                 slow.made[name]) for name in slow.up]
    return machines, slow.letters, slow.double()


class Beginnings(unittest.TestCase):
    def test_an_empty_hall(self):
        for hall in (Hall(EXAMPLE), hall_of(EXAMPLE, ""), hall_of(EXAMPLE, "\n  \n")):
            self.assertIsInstance(hall, Hall)
            self.assertEqual(hall.machine_names(), ())
            self.assertEqual(hall.letters_sent(), 0)
            self.assertEqual(hall.double_work(), 0)

    def test_begin(self):
        hall = Hall(EXAMPLE)
        self.assertIsNone(hall.do("begin b\nbegin a"))
        self.assertEqual(hall.machine_names(), ("b", "a"))
        for name in ("a", "b"):
            self.assertIs(hall.is_up(name), True)
            self.assertEqual(hall.known_by(name), ())
            self.assertEqual(hall.state_by(name), ())
            self.assertEqual(hall.log_by(name), "")
            self.assertEqual(hall.made_by(name), 0)
        # A machine that is there does not begin again, up or down.
        hall.do("work a 1 least\nbegin a\nfall b 0\nbegin b")
        self.assertEqual(hall.machine_names(), ("b", "a"))
        self.assertEqual(hall.known_by("a"), ("m:0.Cons",))
        self.assertIs(hall.is_up("b"), False)

    def test_errors(self):
        hall = hall_of(EXAMPLE, "begin a\nsend a all\nnote x")
        calls = (hall.is_up, hall.known_by, hall.state_by, hall.log_by, hall.made_by)
        for name in ("b", "", "A", " a", "begin", None, 5, True, ["a"], ("a",), EXAMPLE):
            for call in calls:
                with self.assertRaises(NoName) as caught:
                    call(name)
                self.assertIs(caught.exception.name, name)
        self.assertEqual([hall.letter_text(0), hall.letter_text(1)], ["", "x\n"])
        for number in (2, -1, 99, True, False, None, "0", 0.0, [0]):
            raises(self, BadNumber, {"what": "letter", "number": number}, hall.letter_text, number)

    def test_errors_ahead_of_all_deeds(self):
        for text, line, column in (("begin a\nbegin", 2, 6), ("begin a\nwork a 1 least\n\nx", 4, 1), (None, 0, 0),
                (5, 0, 0),
                                   (["begin a"], 0, 0), ("begin a\nwork a 1 least\nsend a", 3, 7)):
            hall = hall_of(EXAMPLE, "begin b")
            raises(self, BadText, {"line": line, "column": column}, hall.do, text)
            self.assertEqual(told(hall), told(hall_of(EXAMPLE, "begin b")))
            raises(self, BadText, {"line": line, "column": column}, hall_of, EXAMPLE, text)


class Work(unittest.TestCase):
    def made(self, text, ahead="begin a\n"):
        return hall_of(BOOK, ahead + text).known_by("a")

    def test_ways_to_choose(self):
        self.assertEqual(next_lines(BOOK, []), ("m:1.#4", "m:3.Node"))
        one, two = ("m:1.#4",), ("m:3.Node",)
        for how, lines in (
            ("least", one), ("greatest", two), ("turn 0", one), ("turn 1", two), ("turn 2", one),
            ("turn 999999999", two),
            ("turn 12", one), ("share 0 0", one), ("share 5 0", one), ("share 0 1", one), ("share 1 1", one),
            # m:1.#4 has 6 signs, m:3.Node has 8.
            ("share 0 4", two), ("share 2 4", one), ("share 1 7", two), ("share 0 2", one), ("share 0 6", one),
            ("share 2 6", two),
            ("share 3 4", one), ("share 6 6", one), ("share 8 9", two), ("share 0 9", one), ("share 6 7", one),
            ("share 9 9", one),
        ):
            self.assertEqual(self.made(f"work a 1 {how}"), lines, how)
        behind = next_lines(BOOK, ["m:3.Node"])
        self.assertEqual(behind, ("m:1.#4", "m:3.Node.1.Leaf", "m:3.Node.2.#3", "m:3.Node.3.Leaf"))
        for how, line in (("turn 2", behind[2]), ("turn 3", behind[3]), ("turn 6", behind[2]), ("greatest", behind[3]),
                          ("share 1 2", behind[1]), ("share 6 10", behind[0]), ("share 3 10", behind[2]),
                          ("share 5 10", behind[1])):
            self.assertEqual(self.made(f"work a 1 {how}", "begin a\nwork a 1 greatest\n"), ("m:3.Node", line), how)

    def test_how_many(self):
        self.assertEqual(self.made("work a 0 least"), ())
        self.assertEqual(self.made("work a 3 least"), ("m:1.#4", "m:1.#4.0.#2", "m:0.#8"))
        whole = self.made("work a 999999999 least")
        self.assertEqual(tuple(sorted(whole)), SOME.lines)
        hall = hall_of(BOOK, "begin a\nwork a 4 greatest\nwork a 999999999 turn 5\nwork a 1 least")
        self.assertEqual(hall.made_by("a"), len(SOME.lines))
        self.assertEqual(hall.state_by("a"), SOME.lines)
        self.assertEqual(hall.log_by("a"), log_text(hall.known_by("a")))
        self.assertEqual(hall.known_by("a")[:4], ("m:3.Node", "m:3.Node.3.Leaf", "m:3.Node.2.#3", "m:3.Node.2.#3.0.#0"))

    def test_machines_that_are_down_or_not_there(self):
        for text in ("work b 2 least", "fall a 0\nwork a 2 least"):
            hall = hall_of(BOOK, "begin a\n" + text)
            self.assertEqual(hall.machine_names(), ("a",))
            self.assertEqual((hall.known_by("a"), hall.made_by("a")), ((), 0))

    def test_what_was_known_and_could_not_be_done(self):
        hall = hall_of(BOOK, "begin a\nnote m:1.#4.0.#2 m:0.#8\nhand 0 a")
        self.assertEqual(hall.known_by("a"), ("m:1.#4.0.#2", "m:0.#8"))
        self.assertEqual(hall.state_by("a"), ())
        hall.do("work a 1 least")
        self.assertEqual(hall.known_by("a"), ("m:1.#4.0.#2", "m:0.#8", "m:1.#4"))
        self.assertEqual(hall.state_by("a"), ("m:0.#8", "m:1.#4", "m:1.#4.0.#2"))
        self.assertEqual((hall.made_by("a"), hall.log_by("a")), (1, "m:1.#4.0.#2\nm:0.#8\nm:1.#4\n"))
        # They are not made again.
        hall.do("work a 1 least")
        self.assertEqual(hall.known_by("a")[3:], ("m:3.Node",))

    def test_endless_runs(self):
        hall = hall_of(book_of("ever", "Yes"), "begin a\nwork a 50 least\nwork a 50 greatest")
        self.assertEqual(hall.made_by("a"), 100)
        self.assertEqual(hall.known_by("a")[:2], ("m:0.Yes", "m:0.Yes.0.Yes"))


class Letters(unittest.TestCase):
    def test_all(self):
        hall = hall_of(BOOK, "begin a\nsend a all\nwork a 2 least\nsend a all\nsend a all\nnote word m:9.A m:1.#4\nhand 3 a\nsend a all")
        first = "m:1.#4\nm:1.#4.0.#2\n"
        self.assertEqual([hall.letter_text(k) for k in range(5)],
            ["", first, first, "word\nm:9.A\nm:1.#4\n", first + "m:9.A\n"])
        self.assertEqual(hall.letters_sent(), 5)

    def test_new(self):
        hall = hall_of(BOOK, "begin a\nwork a 1 least\nsend a new\nwork a 1 least\nsend a new\nsend a new\nwork a 1 least\nsend a all\n"
                       "send a new\nwork a 1 greatest\nsend a new")
        lines = ("m:1.#4", "m:1.#4.0.#2", "m:0.#8", "m:3.Node")
        self.assertEqual([hall.letter_text(k) for k in range(6)],
                         [lines[0] + "\n", lines[1] + "\n", "", log_text(lines[:3]), "", lines[3] + "\n"])
        # What was torn off counts as it was sent; what came from others is new until it is sent.
        hall.do("note m:9.A m:0.#8\nhand 6 a\ntear 5 0\nsend a new\nsend a new")
        self.assertEqual([hall.letter_text(7), hall.letter_text(8)], ["m:9.A\n", ""])

    def test_new_behind_tops_and_cleanings(self):
        hall = hall_of(BOOK, "begin a\nwork a 3 least\nsend a tops\nsend a new\nnote m:9.A\nhand 2 a\nclean a\nsend a new\nhand 2 a\nsend a new")
        self.assertEqual(hall.letter_text(0), "m:0.#8\n")
        self.assertEqual(hall.letter_text(1), "m:1.#4\nm:1.#4.0.#2\n")
        self.assertEqual([hall.letter_text(3), hall.letter_text(4)], ["", "m:9.A\n"])

    def test_new_behind_a_rise(self):
        hall = hall_of(BOOK, "begin a\nwork a 3 least\nsend a new\nfall a 0\nsend a new\nrise a\nsend a new\nsend a new\nfall a 3\nrise a\nsend a new")
        whole = "m:1.#4\nm:1.#4.0.#2\nm:0.#8\n"
        self.assertEqual(hall.letters_sent(), 4)
        self.assertEqual([hall.letter_text(k) for k in range(4)], [whole, whole, "", "m:1.#4\nm:1.#4.0.#2\n"])

    def test_tops(self):
        hall = hall_of(BOOK, "begin a\nsend a tops\nwork a 5 least\nsend a tops\nnote m:0.#8.0.#3 m:3.Node.1.Leaf m:5.A\nhand 2 a\nsend a tops"
                       "\nwork a 99 least\nsend a tops")
        self.assertEqual(hall.letter_text(0), "")
        self.assertEqual(hall.letter_text(1), "m:0.#8\nm:3.Node.1.Leaf\n")
        # Lines that it knows and that are not in its state are not told.
        self.assertEqual(hall.letter_text(3), "m:0.#8\nm:3.Node.1.Leaf\n")
        self.assertEqual(hall.letter_text(4), "m:0.#8.0.#3\n")
        # Tops are told sorted, whatever the order in which they came to be.
        hall = hall_of(BOOK, "begin a\nwork a 4 greatest\nwork a 1 least\nsend a tops")
        self.assertEqual(hall.letter_text(0), "m:1.#4\nm:3.Node.2.#3.0.#0\n")

    def test_notes(self):
        hall = hall_of(BOOK, "note m:1.#4\nnote a  b ;c ( m:0.A\nbegin a\nhand 1 a\nhand 0 a")
        self.assertEqual([hall.letter_text(0), hall.letter_text(1)], ["m:1.#4\n", "a\nb\n;c\n(\nm:0.A\n"])
        self.assertEqual(hall.known_by("a"), ("m:0.A", "m:1.#4"))
        self.assertEqual(hall.state_by("a"), ("m:1.#4",))
        self.assertEqual((hall.made_by("a"), hall.double_work()), (0, 0))

    def test_who_sends(self):
        hall = hall_of(BOOK, "send a all\nbegin a\nfall a 0\nsend a all\nsend a new\nsend a tops\nsend b all")
        self.assertEqual(hall.letters_sent(), 0)

    def test_letters_torn_at_each_sign(self):
        whole = log_text(SOME.lines)
        words = " ".join(SOME.lines)
        for n in range(len(whole) + 2):
            hall = hall_of(BOOK, f"begin a\nnote {words}\ntear 0 {n}\nhand 0 a")
            self.assertEqual(hall.letter_text(0), whole[:n])
            self.assertEqual(hall.known_by("a"), lines_in(whole[:n]))
            self.assertEqual(hall.state_by("a"), whole_part(BOOK, lines_in(whole[:n])))
            self.assertEqual(hall.log_by("a"), log_text(lines_in(whole[:n])))
        hall = hall_of(BOOK, "note x\ntear 1 0\ntear 0 5\ntear 0 1\ntear 0 2\ntear 99 0\ntear 999999999 0")
        self.assertEqual(hall.letter_text(0), "x")

    def test_hand(self):
        hall = hall_of(BOOK, "begin a\nbegin b\nwork a 3 greatest\nsend a all\nhand 0 b")
        self.assertEqual(hall.known_by("b"), hall.known_by("a"))
        self.assertEqual(hall.log_by("b"), hall.log_by("a"))
        self.assertEqual((hall.made_by("a"), hall.made_by("b"), hall.letters_sent()), (3, 0, 1))
        # Again, to the sender, to one that is down, to one that is not there, a letter that is not there.
        behind = told(hall)
        hall.do("hand 0 b\nhand 0 a\nhand 1 b\nhand 0 c\nhand 999999999 a")
        self.assertEqual(told(hall), behind)
        hall.do("fall b 999999999\nhand 0 b")
        self.assertEqual(hall.known_by("b"), ())
        hall.do("rise b\nhand 0 b")
        self.assertEqual(hall.known_by("b"), hall.known_by("a"))

    def test_lines_that_were_not_known_come_in_order(self):
        hall = hall_of(BOOK, "begin a\nwork a 2 least\nnote m:3.Node.1.Leaf m:1.#4 m:9.A word m:3.Node m:9.A\nhand 0 a")
        self.assertEqual(hall.known_by("a"), ("m:1.#4", "m:1.#4.0.#2", "m:3.Node.1.Leaf", "m:9.A", "m:3.Node"))
        self.assertEqual(hall.state_by("a"), ("m:1.#4", "m:1.#4.0.#2", "m:3.Node", "m:3.Node.1.Leaf"))
        self.assertEqual(hall.log_by("a"), log_text(hall.known_by("a")))


class Falls(unittest.TestCase):
    def test_falls_at_each_sign(self):
        whole = hall_of(BOOK, "begin a\nwork a 6 turn 1").log_by("a")
        for n in list(range(len(whole) + 2)) + [999999999]:
            hall = hall_of(BOOK, f"begin a\nwork a 6 turn 1\nfall a {n}")
            left = whole[:max(0, len(whole) - n)]
            self.assertIs(hall.is_up("a"), False)
            self.assertEqual(hall.log_by("a"), left)
            self.assertEqual(hall.known_by("a"), lines_in(left))
            self.assertEqual(hall.state_by("a"), held(BOOK, [left]))
            self.assertEqual(hall.made_by("a"), 6)
            # It stays as it is until it rises.
            behind = told(hall)
            hall.do("fall a 5\nclean a\nsend a all\nwork a 1 least\nbegin a\nnote x\nhand 0 a\nseek 0 a 5")
            self.assertEqual(told(hall)[0], behind[0])
            hall.do("rise a")
            log = left if left == "" or left.endswith("\n") else left + "\n"
            self.assertEqual(told(hall)[0], [("a", True, lines_in(log), whole_part(BOOK, lines_in(log)), log, 6)])
            hall.do("work a 999 least")
            self.assertEqual(hall.state_by("a"), SOME.lines)

    def test_lines_that_a_torn_end_makes(self):
        hall = hall_of(BOOK, "begin a\nwork a 2 greatest\nfall a 1")
        self.assertEqual((hall.log_by("a"), hall.known_by("a")), ("m:3.Node\nm:3.Node.3.Leaf", ("m:3.Node",)))
        hall.do("rise a")
        self.assertEqual((hall.log_by("a"), hall.known_by("a")), ("m:3.Node\nm:3.Node.3.Leaf\n",
            ("m:3.Node", "m:3.Node.3.Leaf")))
        hall.do("fall a 3\nrise a")
        self.assertEqual(hall.known_by("a"), ("m:3.Node", "m:3.Node.3.Le"))
        self.assertEqual(hall.state_by("a"), ("m:3.Node",))
        hall.do("work a 1 greatest\nclean a")
        self.assertEqual(hall.known_by("a"), ("m:3.Node", "m:3.Node.3.Leaf"))

    def test_rise(self):
        hall = hall_of(BOOK, "rise a\nbegin a\nwork a 1 least\nrise a\nsend a new\nrise a\nsend a new")
        self.assertEqual([hall.letter_text(0), hall.letter_text(1)], ["m:1.#4\n", ""])
        # The order in the log is that in which it knows the lines.
        hall = hall_of(BOOK, "begin a\nnote m:1.#4.0.#2 m:9.A m:1.#4\nhand 0 a\nfall a 0\nrise a")
        self.assertEqual(hall.known_by("a"), ("m:1.#4.0.#2", "m:9.A", "m:1.#4"))
        self.assertEqual(hall.state_by("a"), ("m:1.#4", "m:1.#4.0.#2"))

    def test_clean(self):
        hall = hall_of(BOOK, "begin a\nnote m:9.A m:1.#4.0.#2 m:3.Node.1.Leaf m:1.#4 word\nhand 0 a\nwork a 1 least\nclean a")
        self.assertEqual(hall.known_by("a"), ("m:0.#8", "m:1.#4", "m:1.#4.0.#2"))
        self.assertEqual(hall.log_by("a"), "m:0.#8\nm:1.#4\nm:1.#4.0.#2\n")
        self.assertEqual(hall.made_by("a"), 1)
        hall.do("work a 1 least")
        # m:3.Node.1.Leaf is not known any more.
        self.assertEqual(hall.state_by("a"), ("m:0.#8", "m:1.#4", "m:1.#4.0.#2", "m:3.Node"))
        hall.do("clean b\nfall a 2\nclean a")
        self.assertEqual(hall.log_by("a"), "m:0.#8\nm:1.#4\nm:1.#4.0.#2\nm:3.Nod")
        self.assertEqual(hall_of(BOOK, "begin a\nclean a").log_by("a"), "")


class Seeking(unittest.TestCase):
    def seen(self, text):
        hall = hall_of(BOOK, "begin a\n" + text)
        return hall.known_by("a"), hall.made_by("a")

    def test_one_line(self):
        need = ("m:3.Node", "m:3.Node.1.Leaf", "m:3.Node.0.#0")
        for many in (3, 4, 999999999):
            self.assertEqual(self.seen(f"note m:3.Node.0.#0\nseek 0 a {many}"), (need, 3))
        for many in (0, 1, 2):
            self.assertEqual(self.seen(f"note m:3.Node.0.#0\nseek 0 a {many}"), ((), 0))
        # In the order of heights, then of lines.
        self.assertEqual(self.seen("note m:0.#8\nseek 0 a 9")[0], ("m:1.#4", "m:1.#4.0.#2", "m:0.#8"))
        self.assertEqual(self.seen("note m:3.Node.0.#0.0.#3\nseek 0 a 9")[0], (
            "m:3.Node", "m:3.Node.1.Leaf", "m:3.Node.2.#3", "m:3.Node.3.Leaf", "m:3.Node.0.#0", "m:3.Node.2.#3.0.#0",
            "m:3.Node.0.#0.0.#3"))

    def test_what_is_in_the_state_counts(self):
        self.assertEqual(self.seen("work a 1 greatest\nnote m:3.Node.0.#0\nseek 0 a 2"),
                         (("m:3.Node", "m:3.Node.1.Leaf", "m:3.Node.0.#0"), 3))
        self.assertEqual(self.seen("work a 1 greatest\nnote m:3.Node.0.#0\nseek 0 a 1"), (("m:3.Node",), 1))
        self.assertEqual(self.seen("work a 1 greatest\nnote m:3.Node\nseek 0 a 0"), (("m:3.Node",), 1))

    def test_lines_that_it_knew(self):
        # m:3.Node.0.#0 and m:0.#8 cannot be done when they come to be known.
        text = "note m:3.Node.0.#0 m:0.#8 m:9.A\nhand 0 a\nnote m:3.Node.0.#0\nseek 1 a "
        self.assertEqual(self.seen(text + "2"), (("m:3.Node.0.#0", "m:0.#8", "m:9.A"), 0))
        known, made = self.seen(text + "3")
        self.assertEqual(known, ("m:3.Node.0.#0", "m:0.#8", "m:9.A", "m:3.Node", "m:3.Node.1.Leaf"))
        self.assertEqual(made, 3)
        hall = hall_of(BOOK, "begin a\n" + text + "3\nbegin b\nwork b 1 greatest")
        self.assertEqual(hall.double_work(), 1)
        self.assertEqual(hall.state_by("a"), ("m:3.Node", "m:3.Node.0.#0", "m:3.Node.1.Leaf"))
        self.assertEqual(hall.log_by("a"), log_text(hall.known_by("a")))
        # A line that it knew comes into its state without being made, if it is not needed.
        hall = hall_of(BOOK, "begin a\nnote m:0.#8\nhand 0 a\nnote m:1.#4.0.#2\nseek 1 a 2")
        self.assertEqual((hall.made_by("a"), hall.state_by("a")), (2, ("m:0.#8", "m:1.#4", "m:1.#4.0.#2")))

    def test_one_line_after_the_other(self):
        # For the second line the state is that behind the first one.
        self.assertEqual(self.seen("note m:1.#4.0.#2 m:0.#8\nseek 0 a 2")[0], ("m:1.#4", "m:1.#4.0.#2", "m:0.#8"))
        self.assertEqual(self.seen("note m:0.#8 m:1.#4.0.#2\nseek 0 a 2")[0], ("m:1.#4", "m:1.#4.0.#2"))
        self.assertEqual(self.seen("note m:0.#8 m:1.#4.0.#2 m:0.#8\nseek 0 a 2")[0], ("m:1.#4", "m:1.#4.0.#2"))
        self.assertEqual(self.seen("note m:0.#8.0.#3 word m:1.#4 m:9.A m:3.Node\nseek 0 a 5")[0],
            ("m:1.#4", "m:3.Node"))

    def test_lines_that_no_state_has(self):
        for word in ("m:1.#5", "m:9.A", "m:1.#4.0.#3", "m:1.#4.0.#2.0.#8", "m:3.Node.9.Leaf", "m:3.Leaf", "word",
                "m:3.Node.1"):
            self.assertEqual(self.seen(f"note {word}\nseek 0 a 999"), ((), 0))
            self.assertEqual(self.seen(f"note {word} m:1.#4\nseek 0 a 999"), (("m:1.#4",), 1))

    def test_conditions(self):
        hall = hall_of(BOOK, "begin a\nnote m:1.#4\nseek 1 a 5\nseek 0 b 5\nfall a 0\nseek 0 a 5\nseek 999999999 a 5")
        self.assertEqual((hall.known_by("a"), hall.letters_sent()), ((), 1))
        self.assertEqual(hall.machine_names(), ("a",))

    def test_endless_runs(self):
        book = book_of("beside", "Yes")
        last = "m:1.Yes" + ".0.Yes" * 29
        for many, made in ((29, 0), (30, 30), (31, 30)):
            self.assertEqual(hall_of(book, f"begin a\nnote {last}\nseek 0 a {many}").made_by("a"), made)
        for word in ("m:0.#0", "m:1.No", "m:1.Yes.0.No"):
            hall = hall_of(book, f"begin a\nnote {word}\nseek 0 a 300")
            self.assertEqual(hall.known_by("a"), ())
        hall = hall_of(book, f"begin a\nwork a 20 least\nnote {last} m:0.#0\nseek 0 a 10")
        self.assertEqual((hall.made_by("a"), len(hall.state_by("a"))), (30, 30))

    def test_tops_are_enough(self):
        hall = hall_of(BOOK, "begin a\nbegin b\nwork a 99 turn 3\nsend a tops\nseek 0 b 99")
        self.assertEqual(hall.state_by("b"), SOME.lines)
        self.assertEqual(hall.double_work(), len(SOME.lines))


class Double(unittest.TestCase):
    def test_double_work(self):
        for text, told_double in (
            ("begin a\nbegin b", 0), ("begin a\nbegin b\nwork a 3 least\nwork b 3 least", 3),
            ("begin a\nbegin b\nwork a 1 least\nwork b 1 greatest", 0),
            ("begin a\nwork a 3 least\nfall a 999\nrise a\nwork a 4 least", 3),
            ("begin a\nbegin b\nwork a 2 least\nsend a all\nhand 0 b\nwork b 2 least\nsend b all\nhand 1 a\nwork a 9 least", 0),
            ("begin a\nbegin b\nbegin c\nwork a 99 least\nwork b 99 greatest\nwork c 99 turn 1", 22),
        ):
            self.assertEqual(hall_of(BOOK, text).double_work(), told_double)

    def test_made_by(self):
        hall = hall_of(EXAMPLE, "begin a\nwork a 1 least\nfall a 99\nrise a\nwork a 2 least\nsend a tops\nbegin b\nseek 0 b 5")
        self.assertEqual((hall.made_by("a"), hall.made_by("b"), hall.double_work()), (3, 2, 3))
        self.assertEqual(hall.state_by("b"), BOTH)


class MadeUp(unittest.TestCase):
    def test_weavings_deed_by_deed(self):
        downs = doubles = unlike = 0
        for seed, book in some_books(range(30)):
            rnd = random.Random(seed)
            lines = some_run(book, seed, 12)
            deeds = some_weaving(rnd, rnd.randint(2, 4), lines, 25)
            hall, slow = Hall(book), SlowHall(book)
            for deed in deeds:
                hall.do(deed)
                slow.do(tuple(deed.split(" ")))
                self.assertEqual(told(hall), told_slowly(slow), deeds)
            # All at once it is the same.
            once = hall_of(book, "\n".join(deeds))
            self.assertEqual(told(once), told(hall))
            downs += len([1 for name in hall.machine_names() if not hall.is_up(name)])
            doubles += hall.double_work()
            unlike += len([1 for name in hall.machine_names() if len(hall.state_by(name)) < len(hall.known_by(name))])
        self.assertGreater(downs, 20)
        self.assertGreater(doubles, 50)
        self.assertGreater(unlike, 10)

    def test_results_do_not_change_behind(self):
        hall = hall_of(BOOK, "begin a\nwork a 2 least\nsend a all")
        before = told(hall)
        known = hall.known_by("a")
        names = hall.machine_names()
        hall.do("begin b\nwork a 3 least\ntear 0 3")
        self.assertEqual((known, names), (before[0][0][2], ("a",)))
        self.assertEqual(len(known), 2)


if __name__ == "__main__":
    unittest.main()
