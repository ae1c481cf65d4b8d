"""[51]: rounds and hands."""

import unittest

from namedmeets.causes import causes, heights
from namedmeets.errors import BadNumber
from namedmeets.plans import is_busy, is_plan, plan, rounds
from namedmeets.ways import Story
from tests.helpers import raises
from tests.slownets import some_books, some_run
from tests.test_causes import EXAMPLE, REV, SOME

NONE = Story(EXAMPLE, [])
HANDS = (0, -1, True, False, None, "1", 1.0, [2], (1,))


def plan_holds(story, hands, rows):
    """Whether rounds are a plan, word by word."""
    done = []
    for row in rows:
        if not 1 <= len(row) <= hands:
            return False
        for line in row:
            if line not in story.lines or not all([cause in done for cause in causes(story, line)]):
                return False
        done.extend(row)
    return sorted(done) == list(story.lines)


def busy_holds(story, hands, rows):
    """Whether a plan is busy, word by word."""
    for k, row in enumerate(rows):
        behind = [line for later in rows[k:] for line in later]
        if len(row) < hands:
            for later in rows[k + 1:]:
                for line in later:
                    if not [cause for cause in causes(story, line) if cause in behind]:
                        return False
    return True


class Rounds(unittest.TestCase):
    def test_some(self):
        self.assertEqual(rounds(SOME), (
            ("m:1.#4", "m:3.Node"), ("m:1.#4.0.#2", "m:3.Node.1.Leaf", "m:3.Node.2.#3", "m:3.Node.3.Leaf"),
            ("m:0.#8", "m:3.Node.0.#0", "m:3.Node.2.#3.0.#0"), ("m:3.Node.0.#0.0.#3",), ("m:0.#8.0.#3",)))
        self.assertEqual(rounds(NONE), ())

    def test_made_up_runs(self):
        for seed, book in some_books(range(15)):
            story = Story(book, some_run(book, seed, 40))
            rows = rounds(story)
            for k, row in enumerate(rows):
                self.assertEqual(row, tuple(sorted([line for line, high in heights(story) if high == k + 1])))
            self.assertTrue(is_plan(story, max(1, len(story.lines)), rows))
            self.assertEqual(len(rows), max([high for _, high in heights(story)], default=0))


class Plans(unittest.TestCase):
    def check(self, story, hands):
        rows = plan(story, hands)
        self.assertEqual(rows, plan(story, hands))
        self.assertIs(rows.__class__, tuple)
        self.assertTrue(all([row.__class__ is tuple for row in rows]))
        self.assertTrue(plan_holds(story, hands, rows))
        self.assertTrue(busy_holds(story, hands, rows))
        self.assertIs(is_plan(story, hands, rows), True)
        self.assertIs(is_busy(story, hands, [list(row) for row in rows]), True)
        many, high = len(story.lines), len(rounds(story))
        self.assertGreaterEqual(len(rows), high)
        self.assertGreaterEqual(len(rows) * hands, many)
        # At most W / k + c * (1 - 1 / k).
        self.assertLessEqual(len(rows) * hands, many + high * (hands - 1))
        return rows

    def test_hands(self):
        for story in (SOME, REV, NONE, Story(EXAMPLE, ["m:0.Cons"])):
            for hands in (1, 2, 3, len(story.lines) + 1, 10 ** 30):
                self.check(story, hands)
            self.assertEqual(len(plan(story, 1)), len(story.lines))
            self.assertEqual(len(plan(story, 1000)), len(rounds(story)))
            self.assertEqual([sorted(row) for row in plan(story, 1000)], [list(row) for row in rounds(story)])
        self.assertEqual(plan(NONE, 3), ())

    def test_made_up_runs(self):
        for seed, book in some_books(range(20)):
            story = Story(book, some_run(book, seed, 40))
            for hands in (1, 2, 3, 4, 7, max(1, len(story.lines))):
                self.check(story, hands)

    def test_hands_that_are_none(self):
        for hands in HANDS:
            raises(self, BadNumber, {"what": "hands", "number": hands}, plan, SOME, hands)
            raises(self, BadNumber, {"what": "hands", "number": hands}, plan, NONE, hands)
            raises(self, BadNumber, {"what": "hands", "number": hands}, is_plan, SOME, hands, [])
            raises(self, BadNumber, {"what": "hands", "number": hands}, is_busy, SOME, hands, [["x"]])
            raises(self, BadNumber, {"what": "hands", "number": hands}, is_plan, NONE, hands, [])


class Judging(unittest.TestCase):
    def test_changed_plans(self):
        rows = [list(row) for row in plan(SOME, 3)]
        self.assertTrue(is_plan(SOME, 3, rows))
        self.assertTrue(is_plan(SOME, 30, rows))
        self.assertFalse(is_plan(SOME, 2, rows))
        wrong = [
            # Left out, doubled, strange, empty rounds, turned round, too few rounds, joined rounds.
            rows[:-1], rows[1:], rows + [["m:1.#4"]], [rows[0] + rows[0][:1]] + rows[1:], rows[:-1] + [["m:0.#8.0.#4"]],
            rows + [["nope"]], rows + [[]], [[]] + rows, rows[:2] + [()] + rows[2:], list(reversed(rows)), [],
            [rows[0] + rows[1]] + rows[2:], rows + [[""]], [["m:0"]] + rows,
        ]
        for one in wrong:
            for hands in (3, 100):
                self.assertFalse(is_plan(SOME, hands, one))
                self.assertFalse(is_busy(SOME, hands, one))
        self.assertTrue(is_plan(NONE, 1, []))
        self.assertTrue(is_busy(NONE, 1, ()))
        self.assertFalse(is_plan(NONE, 1, [[]]))
        self.assertFalse(is_plan(NONE, 1, [["m:0.Cons"]]))

    def test_each_line_moved_to_each_round(self):
        # Whether it still is a plan, and a busy one, is told line by line.
        told = {}
        for story in (SOME, REV):
            for hands in (2, 3, 12):
                rows = [list(row) for row in plan(story, hands)]
                for k, row in enumerate(rows):
                    for line in row:
                        for n in range(len(rows)):
                            new = [[one for one in other if one != line] for other in rows]
                            new[n].append(line)
                            new = [other for other in new if other]
                            self.assertEqual(is_plan(story, hands, new), plan_holds(story, hands, new))
                            busy = plan_holds(story, hands, new) and busy_holds(story, hands, new)
                            self.assertEqual(is_busy(story, hands, new), busy)
                            told[(is_plan(story, hands, new), busy)] = True
        self.assertEqual(sorted(told), [(False, False), (True, False), (True, True)])

    def test_plans_that_are_not_busy(self):
        one_by_one = [[line] for row in rounds(SOME) for line in row]
        self.assertTrue(is_plan(SOME, 1, one_by_one))
        self.assertTrue(is_busy(SOME, 1, one_by_one))
        self.assertTrue(is_plan(SOME, 2, one_by_one))
        self.assertFalse(is_busy(SOME, 2, one_by_one))
        # The heights as rounds, for as many hands as the largest has, or for more.
        self.assertTrue(is_busy(SOME, 4, rounds(SOME)))
        self.assertTrue(is_busy(SOME, 99, rounds(SOME)))
        # A line that could have been done in the first round, which had a hand left.
        late = [["m:1.#4"], ["m:1.#4.0.#2", "m:3.Node"]] + [[line] for row in rounds(SOME)[1:] for line in row[0:]]
        late = [late[0], late[1]] + [row for row in late[2:] if row != ["m:1.#4.0.#2"]]
        self.assertTrue(is_plan(SOME, 2, late))
        self.assertFalse(is_busy(SOME, 2, late))


if __name__ == "__main__":
    unittest.main()
