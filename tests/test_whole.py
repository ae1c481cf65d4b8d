"""[1] and [2]: what is promised over the whole program."""

import inspect
import random
import unittest
from importlib import import_module

from namedmeets.answers import fills, needed, sure
from namedmeets.causes import past
from namedmeets.desk import Desk
from namedmeets.errors import JoinError
from namedmeets.flatrun import flat_plain
from namedmeets.flatten import flattened
from namedmeets.nets import Book, answer_of, done_all, met, net_of, ready, started
from namedmeets.plain import plain
from namedmeets.programs import Program, written_program
from namedmeets.remaking import Remake
from namedmeets.edits import Case
from namedmeets.snapshots import snapshot, snapshot_from, snapshot_text
from namedmeets.states import is_state
from namedmeets.values import Made, value_from, written_value
from namedmeets.ways import Story
from namedmeets.why import is_why, why
from tests.helpers import slow_plain, some_program, some_value
from tests.slowhalls import some_weaving
from tests.slownets import some_run

FUNCTIONS = {
    "values": "Made(maker, parts) size_of(value) places_of(value) part_at(value, place) value_with(value, place, part) "
              "written_value(value) value_from(text)",
    "words": "is_big(word) is_small(word) is_number(word) words_of(line)",
    "trees": "Maker(name, places) Kind(name, makers) Row(patterns, body) Function(name, places, result, rows) Place(name) "
             "Shape(maker, parts) Number(number) Applied(name, parts) Let(name, one, body)",
    "programs": "Program(text) kind_named(program, name) function_named(program, name) maker_named(program, name) "
                "written_program(program)",
    "patterns": "fits(program, value, kind) matched(pattern, value) counting_row(function, values) least_value(program, kind) "
                "missing(program, function) comes_to(program, function, index) needless(program, function)",
    "checking": "place_kinds(program, function, index) tests(function)",
    "plain": "plain(program, name, values, fuel) Came(value, count)",
    "flat": "Copy(part, one, two, body) Leave(part, body) FlatRow(maker, names, body, rows) "
            "FlatFunction(name, origin, places, result, rows) Start(name, names, body, rows) Flat(program, functions, starts) "
            "flat_function(flat, name) start_of(flat, name) row_for(function, maker) fault_of(flat)",
    "flatten": "flattened(program)",
    "flatrun": "flat_plain(flat, name, values, fuel) tests_of(program, name, values)",
    "settling": "settled(flat)",
    "nets": "Cell(name, label) Net(cells, ties) Book(flat, name, given) started(book) ready(net) born(book, worker, maker) "
            "met(book, net, line) net_of(book, lines) done_all(book, net, most) answer_of(net)",
    "holding": "kept(book, net) ends_of(book, label)",
    "meaning": "meant(book, net, fuel)",
    "ways": "Story(book, lines)",
    "causes": "causes(story, line) past(story, line) height(story, line) heights(story) tops(story) chain(story) is_chain(story, lines)",
    "plans": "rounds(story) plan(story, hands) is_plan(story, hands, rows) is_busy(story, hands, rows)",
    "demands": "feeder(net, end) waiting(net) missing(book, lines, end, fuel) least_state(book, words, fuel)",
    "states": "whole_part(book, words) is_state(book, words) joined(book, one, two) common(book, one, two) next_lines(book, lines)",
    "answers": "Hole(worker) sure(net) has_holes(one) fills(one, two) partial_at(one, place) needed(book, place, fuel) "
               "hangs_on(book, place, fuel)",
    "snapshots": "Snapshot(count, net) snapshot(book, lines) standing(net, name) is_true(book, snap) lines_of(book, snap) "
                 "grown(book, snap, words) is_within(one, two) merged(book, one, two) shared(book, one, two) snapshot_text(snap) "
                 "snapshot_from(book, text)",
    "logs": "is_line(word) parent_of(line) log_text(lines) lines_in(text) appended(text, lines) held(book, texts) left_over(book, texts)",
    "packing": "packed(lines) unpacked(text)",
    "deeds": "deeds_of(text)",
    "halls": "Hall(book) hall_of(book, text)",
    "keeping": "outlives(hall, many) copies(hall, line)",
    "edits": "Case(text, name, given) with_part(case, place, path, value) with_line(case, number, line) "
             "with_new_line(case, number, line) without_line(case, number) alike_rows(flat, other, function, maker) "
             "carried(book, other, lines) is_shared(book, other, lines)",
    "remaking": "Remake(case) costs(cases, fuel)",
    "why": "Step(line, label, word, rows, causes) Why(place, word, steps, rows, cells) why(book, place, fuel) is_why(book, told) "
           "told_why(told)",
    "general": "Anything(kind) general(book, place, fuel) fits_pattern(program, pattern, value) pattern_text(pattern) "
               "value_place(name) changed(book, name, part) places_from(book, name, fuel) idle_cells(book, fuel)",
    "parting": "Parting(line, here, there, cell, what) parting(one, other, place, fuel) unlike_places(value, other) "
               "Blame(place, here, there, partings) blame(one, other, fuel)",
    "desk": "Desk(text='')",
}
METHODS = {
    ("ways", "Story"): "cell(name) all_names() born_by(name) gone_by(name) goes_on(end) way(end)",
    ("halls", "Hall"): "do(text) machine_names() letters_sent() letter_text(number) is_up(name) known_by(name) state_by(name) "
                       "log_by(name) made_by(name) double_work()",
    ("remaking", "Remake"): "go(many) hear(lines) change(case) answer()",
    ("desk", "Desk"): "put(text) edit(name, number, text) drop(name) rename(name, new) keep(promise) release(promise) attempt(action) "
                      "trial(action) undo() redo() file_text() item_names() promises() get_program(name) get_book(name) get_hall(name) "
                      "holds(promise) broken() spared(hall, run)",
}
EQUAL = [("values", "Made"), ("nets", "Net"), ("answers", "Hole"), ("snapshots", "Snapshot"), ("edits", "Case"),
    ("general", "Anything")]
ERRORS = {
    "BadText": "line column", "BadProgram": "line what", "BadValue": "value why", "BadName": "name", "NoName": "name",
    "TakenName": "name",
    "BadNumber": "what number", "TooMany": "what many limit", "BadNet": "what", "NotKept": "promise witness",
    "NothingToUndo": "",
    "NothingToRedo": "",
}


def calls_in(text):
    """The pairs (name, arguments) of a row such as `one(a, b) two()`."""
    rows = []
    for part in text.split(") "):
        name, _, rest = part.rstrip(")").partition("(")
        rows.append((name, [one for one in rest.split(", ") if one]))
    return rows


def arguments_of(call):
    return [str(one) for one in inspect.signature(call).parameters.values()]


class Interface(unittest.TestCase):
    def test_functions_and_classes(self):
        for module, text in FUNCTIONS.items():
            found = import_module(f"namedmeets.{module}")
            for name, arguments in calls_in(text):
                one = getattr(found, name)
                self.assertEqual(one.__module__, f"namedmeets.{module}", name)
                self.assertEqual(arguments_of(one), arguments, name)

    def test_methods(self):
        for (module, name), text in METHODS.items():
            one = getattr(import_module(f"namedmeets.{module}"), name)
            for method, arguments in calls_in(text):
                self.assertIn(method, vars(one))
                self.assertEqual(arguments_of(vars(one)[method])[1:], arguments, method)
        for module, name in EQUAL:
            self.assertIn("__eq__", vars(getattr(import_module(f"namedmeets.{module}"), name)))

    def test_errors(self):
        errors = import_module("namedmeets.errors")
        self.assertEqual(JoinError.__bases__, (ValueError,))
        for name, fields in ERRORS.items():
            one = getattr(errors, name)
            self.assertEqual(one.__bases__, (JoinError,))
            values = [[k] for k in range(len(fields.split()))]
            for field, value in zip(fields.split(), values):
                self.assertIs(getattr(one(*values), field), value)


def as_plain(test, value):
    """A result as tuples, texts and numbers, to compare it; there may be no list in it."""
    test.assertNotIsInstance(value, list)
    if isinstance(value, tuple):
        return tuple([as_plain(test, one) for one in value])
    if value is None or isinstance(value, (int, str)):
        return value
    return (value.__class__.__name__,) + tuple([as_plain(test, one) for one in vars(value).values()])


class Conventions(unittest.TestCase):
    def setUp(self):
        self.program = Program("kind List = Nil | Cons Num List\nfun append List List = List\nappend Nil y = y\n"
                               "append (Cons x t) y = Cons x (append t y)\n")
        self.book = Book(flattened(self.program), "append", [value_from("Cons 1 Nil"), value_from("Cons 2 Nil")])
        self.lines = done_all(self.book, started(self.book), 9)[1]

    def calls(self):
        """Calls with a list in them, and functions that make it anew."""
        book, lines, logs = self.book, self.lines, ["m:0.Cons\n", "x\nm:0.Cons.1.Nil\n"]
        rows = {
            "states": [("whole_part", [book, list(lines)]), ("joined", [book, list(lines), ["m:0.Cons"]]),
                ("common", [book, [], list(lines)]),
                       ("next_lines", [book, ["m:0.Cons"]])],
            "logs": [("held", [book, logs]), ("left_over", [book, logs]), ("lines_in", [logs[1]])],
            "packing": [("unpacked", ["m:0 Cons\n1 1 Nil\n"])],
            "deeds": [("deeds_of", ["begin a\nwork a 5 least"])],
            "edits": [("carried", [book, book, list(lines)])],
            "why": [("why", [book, [1, 0], 9])],
            "general": [("general", [book, [1], 9]), ("places_from", [book, "a0", 9]), ("idle_cells", [book, 9])],
            "answers": [("needed", [book, [1, 0], 9]), ("hangs_on", [book, [1, 0], 9])],
            "parting": [("parting", [book, book, [1, 0], 9]), ("blame", [book, book, 9])],
            "demands": [("least_state", [book, list(lines), 9]), ("missing", [book, ["m:0.Cons"], ("root", 0), 9])],
        }
        for module, some in rows.items():
            for name, arguments in some:
                yield getattr(import_module(f"namedmeets.{module}"), name), arguments

    def test_results_are_tuples_and_arguments_stay(self):
        for call, arguments in self.calls():
            kept = [list(one) if isinstance(one, list) else one for one in arguments]
            one = as_plain(self, call(*arguments))
            self.assertEqual(arguments, kept)
            # A tuple may be passed for a list, and equal calls give equal results.
            again = call(*[tuple(one) if isinstance(one, list) else one for one in arguments])
            self.assertEqual(as_plain(self, again), one)

    def test_calls_without_results(self):
        desk = Desk("program p\nkind List = Nil\nfun f List = List\nf x = x\nrun r on p f\nNil\nhall h on r\nbegin a\n")
        hall = desk.get_hall("h")
        for told in (hall.do("begin b"), desk.put(""), desk.edit("h", 1, "begin a"), desk.keep("r within 0"),
                desk.release("r within 0"),
                     desk.rename("h", "k"), desk.drop("k"), desk.undo(), desk.redo()):
            self.assertIsNone(told)

    def test_nothing_calls_itself_for_each_level(self):
        value = value_from("Nil")
        for _ in range(990):
            value = Made("Cons", (1, value))
        book = Book(flattened(self.program), "append", [value, value_from("Nil")])
        one = why(book, (1,) * 990, 2000)
        self.assertEqual((len(one.steps), one.word), (991, "Nil"))
        general, text = import_module("namedmeets.general"), written_value(value)
        self.assertEqual(general.pattern_text(general.general(book, (1,) * 990, 2000)[0]), text.replace("1", "_"))
        self.assertTrue(general.fits_pattern(self.program, general.general(book, (), 2000)[0], value))
        self.assertEqual(len(general.places_from(book, "a0:1", 2000)), 2 * 990 - 1)


class MainFact(unittest.TestCase):
    def test_machines_remakes_and_desks(self):
        ends = endless = 0
        for seed in range(25):
            rnd = random.Random(seed)
            program, heads = some_program(rnd, Program)
            name, places, _ = rnd.choice(heads)
            values = [some_value(rnd, program, place, 3) for place in places]
            book = Book(flattened(program), name, values)
            came = slow_plain(program, name, values, 200)
            count = flat_plain(book.flat, name, values, 300)
            many = rnd.randint(2, 4)
            deeds = some_weaving(rnd, many, some_run(book, seed, 10), 30)
            text = "".join(["program p\n", written_program(program),
                f"run r on p {name}\n"] + [written_value(value) + "\n" for value in values]
                           + ["hall h on r\n"] + [deed + "\n" for deed in deeds])
            desk = Desk(text)
            hall = desk.get_hall("h")
            for machine in hall.machine_names():
                state = hall.state_by(machine)
                self.assertTrue(is_state(book, state))
                story = Story(book, state)
                self.assertTrue(all([set(past(story, line)) <= set(state) for line in state]))
                if came is not None and count is not None:
                    self.assertTrue(fills(sure(story.net), came[0]))
                hall.do(f"rise {machine}\nwork {machine} 300 {rnd.choice(['least', 'greatest', 'turn 3'])}")
                net = net_of(book, hall.state_by(machine))
                if count is None:
                    self.assertIsNone(answer_of(net))
                    endless += 1
                else:
                    self.assertTrue(answer_of(net) == came[0])
                    self.assertEqual((len(hall.state_by(machine)), ready(net)), (count.count, ()))
                    ends += 1
            if came is not None and count is not None:
                self.assertTrue(plain(program, name, values, 200).value == came[0])
                self.assertEqual(desk.holds(f"r gives {written_value(came[0])}"), (True, None))
                self.assertEqual(desk.holds(f"r within {count.count}"), (True, None))
                remake = Remake(Case(written_program(program), name, values))
                remake.hear(hall.state_by(rnd.choice(hall.machine_names())))
                remake.go(300)
                self.assertTrue(remake.answer() == came[0])
                self.assertEqual(len(remake.lines), count.count)
                self.assertTrue(is_why(book, why(book, (), 300)))
                self.assertTrue(set(needed(book, (), 300)) <= set(remake.lines))
                snap = snapshot(book, remake.lines)
                self.assertTrue(snapshot_from(book, snapshot_text(snap)) == snap)
        self.assertGreater(ends, 30)
        self.assertGreater(endless, 0)

    def test_any_order_comes_to_the_same(self):
        book = Book(flattened(Program("kind List = Nil | Cons Num List\nfun sum List = Num\nsum Nil = 0\nsum (Cons x t) = + x (sum t)\n")),
                    "sum", [value_from("Cons 3 (Cons 4 (Cons 5 Nil))")])
        for seed in range(20):
            rnd, net, many = random.Random(seed), started(book), 0
            while ready(net):
                net, many = met(book, net, rnd.choice(ready(net))), many + 1
            self.assertEqual((answer_of(net), many), (12, flat_plain(book.flat, "sum", book.given, 99).count))


if __name__ == "__main__":
    unittest.main()
