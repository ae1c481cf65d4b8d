"""[77] to [79]: runs that go on through edits."""

import unittest

from namedmeets.edits import Case, carried, with_line, with_part
from namedmeets.errors import BadNumber
from namedmeets.flatrun import flat_plain
from namedmeets.nets import answer_of, done_all, net_of, started
from namedmeets.plain import plain
from namedmeets.programs import written_program
from namedmeets.remaking import Remake, costs
from namedmeets.states import is_state, next_lines
from namedmeets.values import value_from, written_value
from tests.helpers import raises
from tests.slowcases import carried_slowly, edited, some_cases
from tests.slownets import done_slowly, some_run
from tests.test_causes import EXAMPLE
from tests.test_edits import CASE, ONE, TEXT, TREE, TWO, whole
from tests.test_nets import MORE


LINES = ("m:0.Cons", "m:0.Cons.1.Cons", "m:0.Cons.1.Cons.1.Nil")
OTHER = with_part(CASE, 0, (1, 1), ONE)
WRONG = (-1, -5, True, False, None, "1", 1.0, [1], (2,), EXAMPLE)


class SlowRemake:
    """A run through edits by the words of [77]; cases are told apart by their texts, names and values."""

    def __init__(self, case):
        self.case, self.lines, self.pasts, self.made = case, set(), [], 0

    def same(self, one, two):
        return one.text == two.text and one.name == two.name and list(one.given) == list(two.given)

    def go(self, many):
        count = 0
        while count < many and next_lines(self.case.book, sorted(self.lines)):
            self.lines.add(next_lines(self.case.book, sorted(self.lines))[0])
            count += 1
        self.made += count
        return count

    def hear(self, lines):
        old = len(self.lines)
        self.lines = set(done_slowly(self.case.book, list(self.lines) + list(lines)))
        return len(self.lines) - old

    def change(self, case):
        if self.same(case, self.case):
            return 0, 0
        self.pasts.append((self.case, set(self.lines)))
        old, self.lines, self.case = self.lines, set(), case
        for past, state in self.pasts:
            self.lines |= state if self.same(past, case) else set(carried_slowly(past.book, case.book, state))
        self.pasts = [(past, state) for past, state in self.pasts if not self.same(past, case)]
        return len(old - self.lines), len(self.lines - old)


class Going(unittest.TestCase):
    def test_at_the_beginning(self):
        remake = Remake(CASE)
        self.assertIs(remake.case, CASE)
        self.assertEqual((remake.lines, remake.pasts, remake.made), ((), (), 0))
        self.assertIsNone(remake.answer())

    def test_go(self):
        remake = Remake(CASE)
        for many, told, lines in ((0, 0, ()), (1, 1, LINES[:1]), (0, 0, LINES[:1]), (5, 2, LINES), (1, 0, LINES),
                (10 ** 9, 0, LINES)):
            self.assertEqual(remake.go(many), told)
            self.assertEqual((remake.lines, remake.made, remake.pasts), (lines, len(lines), ()))
        self.assertEqual(written_value(remake.answer()), "Cons 1 (Cons 2 (Cons 1 Nil))")
        remake = Remake(CASE)
        self.assertEqual(remake.go(3), 3)
        self.assertEqual(remake.lines, LINES)

    def test_the_least_line_goes_first(self):
        case = Case(TEXT, "both", [ONE, TREE])
        for many in range(1, 12):
            remake = Remake(case)
            remake.go(many)
            lines = []
            for _ in range(many):
                lines.append(next_lines(case.book, lines)[0])
            self.assertEqual(remake.lines, tuple(sorted(lines)))
        # It is the least one of all that can meet then, not of those that could at the beginning.
        step = Remake(case)
        for _ in range(11):
            step.go(1)
        self.assertEqual(step.lines, remake.lines)

    def test_endless_runs(self):
        case = Case(written_program(MORE.program), "ever", [value_from("Yes")])
        remake = Remake(case)
        self.assertEqual((remake.go(50), remake.go(50)), (50, 50))
        self.assertEqual((len(remake.lines), remake.made), (100, 100))
        self.assertIsNone(remake.answer())

    def test_errors(self):
        remake = Remake(CASE)
        remake.go(1)
        for many in WRONG:
            raises(self, BadNumber, {"what": "many", "number": many}, remake.go, many)
        self.assertEqual((remake.lines, remake.made), (LINES[:1], 1))


class Hearing(unittest.TestCase):
    def test_hear(self):
        remake = Remake(CASE)
        for lines, told, behind in (
            ([], 0, ()), (["x", "", "m:0.Nil", "m:0.Con", "m:9.A"], 0, ()), ([LINES[1]], 0, ()),
            ([LINES[0], "m:0.Con"], 1, LINES[:1]),
            ([LINES[0]], 0, LINES[:1]), ([LINES[2]], 0, LINES[:1]), ((LINES[2], LINES[1], LINES[2], "x"), 2, LINES),
            (LINES, 0, LINES),
        ):
            self.assertEqual(remake.hear(lines), told)
            self.assertEqual((remake.lines, remake.made), (behind, 0))
        self.assertEqual(remake.go(5), 0)
        self.assertEqual(written_value(remake.answer()), "Cons 1 (Cons 2 (Cons 1 Nil))")

    def test_what_cannot_be_done_is_not_kept(self):
        remake = Remake(CASE)
        remake.hear([LINES[1]])
        remake.go(1)
        self.assertEqual(remake.lines, LINES[:1])
        remake.hear([LINES[1]])
        self.assertEqual(remake.lines, LINES[:2])
        self.assertEqual((remake.go(9), remake.made), (1, 2))


class Changing(unittest.TestCase):
    def test_a_new_case_and_back(self):
        remake = Remake(CASE)
        remake.go(3)
        self.assertEqual(remake.change(OTHER), (1, 0))
        self.assertIs(remake.case, OTHER)
        self.assertEqual((remake.lines, remake.made), (LINES[:2], 3))
        self.assertEqual([(case is CASE, lines) for case, lines in remake.pasts], [(True, LINES)])
        self.assertIs(remake.pasts.__class__, tuple)
        self.assertIs(remake.pasts[0].__class__, tuple)
        self.assertIsNone(remake.answer())
        self.assertEqual(remake.go(9), 2)
        self.assertEqual(written_value(remake.answer()), "Cons 1 (Cons 2 (Cons 1 (Cons 1 Nil)))")
        # Back: all that stood stands again.
        self.assertEqual(remake.change(Case(TEXT, "append", [TWO, ONE])), (2, 1))
        self.assertEqual((remake.lines, remake.made), (LINES, 5))
        self.assertEqual([case is OTHER for case, _ in remake.pasts], [True])
        self.assertEqual(written_value(remake.answer()), "Cons 1 (Cons 2 (Cons 1 Nil))")
        self.assertEqual((remake.change(OTHER), remake.go(9), remake.made), ((1, 2), 0, 5))

    def test_an_equal_case(self):
        remake = Remake(CASE)
        remake.go(2)
        self.assertEqual(remake.change(Case(TEXT, "append", [TWO, ONE])), (0, 0))
        self.assertIs(remake.case, CASE)
        self.assertEqual((remake.lines, remake.pasts, remake.made), (LINES[:2], (), 2))

    def test_the_order_of_pasts(self):
        cases = [CASE, OTHER, with_part(CASE, 1, (0,), 7), Case(TEXT, "sum", [TREE])]
        remake = Remake(cases[0])
        order = [0]
        for k in (1, 2, 1, 3, 0, 2, 2, 1):
            remake.go(1)
            remake.change(cases[k])
            if k != order[-1]:
                order = [one for one in order if one != k] + [k]
            self.assertEqual([[case == one for one in cases].index(True) for case, _ in remake.pasts], order[:-1])

    def test_unions_of_what_is_carried(self):
        # What was done for either of two pasts is carried to the third case, and lines of none are there.
        text = "kind P = P Num Num\nfun f Num Num = P\nf a b = P (+ a 1) (* b 2)\n"
        one, two, both = Case(text, "f", [5, 0]), Case(text, "f", [0, 6]), Case(text, "f", [5, 6])
        remake = Remake(one)
        remake.hear(["m:1.#5", "m:1.#5.0.#1"])
        self.assertEqual(remake.change(two), (2, 0))
        remake.hear(["m:3.#6"])
        self.assertEqual(remake.change(both), (0, 2))
        self.assertEqual(remake.lines, ("m:1.#5", "m:1.#5.0.#1", "m:3.#6"))
        self.assertEqual((remake.go(9), written_value(remake.answer())), (1, "P 6 12"))

    def test_made_up_rows_of_calls(self):
        backs = standing = 0
        for rnd, case in some_cases(range(25)):
            cases = [case]
            for _ in range(3):
                cases.append(edited(rnd, rnd.choice(cases)))
            remake, slow = Remake(case), SlowRemake(case)
            for _ in range(8):
                draw = rnd.random()
                if draw < 0.35:
                    many = rnd.choice([0, 1, 3, 8])
                    self.assertEqual(remake.go(many), slow.go(many))
                elif draw < 0.55:
                    lines = some_run(remake.case.book, rnd.randint(0, 99), 10)
                    lines = [line for line in lines if rnd.random() < 0.8] + ["m:0.Nope", "x", "m:0"]
                    self.assertEqual(remake.hear(lines), slow.hear(lines))
                else:
                    new = rnd.choice(cases)
                    backs += any([new == past for past, _ in remake.pasts])
                    self.assertEqual(remake.change(new), slow.change(new))
                    standing += len(remake.lines)
                self.assertTrue(remake.case == slow.case)
                self.assertEqual((remake.lines, remake.made), (tuple(sorted(slow.lines)), slow.made))
                self.assertEqual([lines for _, lines in remake.pasts],
                    [tuple(sorted(state)) for _, state in slow.pasts])
                self.assertTrue(all([one == two for (one, _), (two, _) in zip(remake.pasts, slow.pasts)]))
                # (a): it is a state of the present case.
                self.assertTrue(is_state(remake.case.book, remake.lines))
                net = net_of(remake.case.book, remake.lines)
                value = answer_of(net) if not next_lines(remake.case.book, remake.lines) else None
                self.assertTrue(remake.answer() == value)
        self.assertGreater(backs, 20)
        self.assertGreater(standing, 100)


class Facts(unittest.TestCase):
    def test_the_end(self):
        # (b) and (d): the answer is that of the plain meaning, behind as many meetings as were lacking.
        ends = 0
        for rnd, case in some_cases(range(30)):
            cases = [case] + [edited(rnd, case) for _ in range(2)]
            remake = Remake(case)
            for _ in range(3):
                remake.go(rnd.randint(0, 12))
                remake.change(rnd.choice(cases))
            came = flat_plain(remake.case.book.flat, remake.case.name, remake.case.given, 300)
            if came is not None:
                stood, made = len(remake.lines), remake.made
                heard = remake.hear(some_run(remake.case.book, 5, 6))
                while remake.go(2):
                    pass
                self.assertEqual(remake.made - made, came.count - stood - heard)
                self.assertTrue(remake.answer() == came.value)
                value = plain(remake.case.program, remake.case.name, remake.case.given, 300).value
                self.assertTrue(remake.answer() == value)
                ends += 1
        self.assertGreater(ends, 30)

    def test_going_back(self):
        # (c): no line is made twice for one case.
        for rnd, case in some_cases(range(15)):
            other = edited(rnd, case)
            remake = Remake(case)
            remake.go(20)
            lines = remake.lines
            remake.change(other)
            remake.go(10)
            remake.change(case)
            self.assertTrue(set(lines) <= set(remake.lines))


class Costs(unittest.TestCase):
    def test_by_hand(self):
        self.assertEqual(costs([], 0), ())
        self.assertEqual(costs([CASE], 3), ((0, 3),))
        self.assertEqual(costs((CASE, OTHER), 4), ((0, 3), (2, 2)))
        self.assertEqual(costs([CASE, OTHER, CASE, CASE, OTHER], 4), ((0, 3), (2, 2), (3, 0), (3, 0), (4, 0)))
        self.assertEqual(costs([OTHER, CASE], 2000), ((0, 4), (2, 1)))
        self.assertEqual(costs([Case("fun one = Num\none = 1", "one", [])], 0), ((0, 0),))
        sums = Case(TEXT, "sum", [TREE])
        self.assertEqual(costs([sums, with_part(sums, 0, (1,), 5), with_line(sums, 3, "")], 99),
                         ((0, 13), (10, 3), (13, 0)))
        self.assertIs(costs([CASE], 3).__class__, tuple)
        self.assertIs(costs([CASE], 3)[0].__class__, tuple)

    def test_fuel(self):
        for cases, most in (([CASE], 3), ([CASE, OTHER], 4), ([OTHER, CASE], 4), ([CASE, OTHER, CASE], 4),
                ([OTHER, OTHER], 4)):
            self.assertEqual(len(costs(cases, most)), len(cases))
            for fuel in range(most):
                raises(self, BadNumber, {"what": "fuel", "number": fuel}, costs, cases, fuel)
        endless = Case(written_program(MORE.program), "ever", [value_from("Yes")])
        for fuel in (0, 1, 100):
            raises(self, BadNumber, {"what": "fuel", "number": fuel}, costs, [endless], fuel)
        for fuel in WRONG:
            for cases in ([], [CASE], [endless]):
                raises(self, BadNumber, {"what": "fuel", "number": fuel}, costs, cases, fuel)

    def test_made_up_edits(self):
        some = 0
        for rnd, case in some_cases(range(30)):
            cases = [case] + [edited(rnd, case) for _ in range(2)]
            counts = [flat_plain(one.book.flat, one.name, one.given, 200) for one in cases]
            if None in counts:
                raises(self, BadNumber, {"what": "fuel", "number": 200}, costs, cases, 200)
                continue
            told = costs(cases, 200)
            self.assertEqual([stood + made for stood, made in told], [came.count for came in counts])
            self.assertEqual(told[0], (0, counts[0].count))
            if cases[1] != cases[0]:
                self.assertEqual(told[1][0], len(carried(case.book, cases[1].book,
                    done_all(case.book, started(case.book), 200)[1])))
                some += told[1][0] > 0
            most = max([came.count for came in counts])
            self.assertEqual(costs(cases, most), told)
            if most:
                raises(self, BadNumber, {"what": "fuel", "number": most - 1}, costs, cases, most - 1)
        self.assertGreater(some, 10)


class Lists(unittest.TestCase):
    def test_lists_are_copied(self):
        lines = [LINES[0]]
        remake = Remake(CASE)
        remake.hear(lines)
        lines.append("x")
        self.assertEqual(remake.lines, LINES[:1])
        before = remake.lines
        remake.go(2)
        self.assertEqual(before, LINES[:1])
        self.assertEqual(lines, [LINES[0], "x"])


if __name__ == "__main__":
    unittest.main()
