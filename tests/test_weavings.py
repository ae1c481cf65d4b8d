"""[69]: what holds for each weaving, on made-up ones of two to four machines."""

import random
import unittest

from namedmeets.answers import fills, sure
from namedmeets.flatrun import flat_plain
from namedmeets.halls import Hall, hall_of
from namedmeets.holding import kept
from namedmeets.logs import held, lines_in
from namedmeets.meaning import meant
from namedmeets.nets import answer_of, net_of
from namedmeets.plain import plain
from namedmeets.states import is_state, next_lines
from tests.slowhalls import some_weaving
from tests.slownets import some_books, some_run
from tests.test_causes import SOME
from tests.test_halls import told
from tests.test_nets import book_of

FUEL = 300


def some_halls(seeds, length):
    """Made-up weavings: the source of chance, a Book, the number of machines, and the deeds."""
    for seed, book in some_books(seeds):
        rnd = random.Random(seed)
        many = rnd.randint(2, 4)
        yield rnd, book, many, some_weaving(rnd, many, some_run(book, seed, 15), length)


class Facts(unittest.TestCase):
    def test_whole(self):
        # (a): each state is a state, its net means what the text means, and what stands in it is right.
        nets = 0
        for rnd, book, many, deeds in some_halls(range(25), 20):
            came = flat_plain(book.flat, book.name, book.given, FUEL)
            hall = Hall(book)
            for deed in deeds:
                hall.do(deed)
                for name in hall.machine_names():
                    state = hall.state_by(name)
                    self.assertTrue(is_state(book, state))
                    net = net_of(book, state)
                    self.assertIsNone(kept(book, net))
                    if came is not None:
                        self.assertTrue(fills(sure(net), came.value))
                        self.assertTrue(meant(book, net, FUEL).value == came.value)
                        self.assertEqual(meant(book, net, FUEL).count, came.count - len(state))
                        nets += 1
        self.assertGreater(nets, 500)

    def test_growing(self):
        # (b): no deed but a fall takes a line out of a state.
        less = 0
        for rnd, book, many, deeds in some_halls(range(30), 40):
            hall = Hall(book)
            for deed in deeds:
                before = {name: hall.state_by(name) for name in hall.machine_names()}
                hall.do(deed)
                for name, state in before.items():
                    if deed.startswith(f"fall {name} "):
                        self.assertEqual(hall.state_by(name), held(book, [hall.log_by(name)]))
                        less += len(hall.state_by(name)) < len(state)
                    else:
                        self.assertTrue(set(state) <= set(hall.state_by(name)), deed)
        self.assertGreater(less, 10)

    def test_once(self):
        # (c): letters handed over again do nothing; two letters may be handed over in either order.
        for rnd, book, many, deeds in some_halls(range(25), 25):
            text = "\n".join(deeds)
            hall = hall_of(book, text)
            letters = list(range(hall.letters_sent()))
            for name in hall.machine_names():
                if hall.is_up(name) and len(letters) > 1:
                    one, two = rnd.sample(letters, 2)
                    first = hall_of(book, f"{text}\nhand {one} {name}\nhand {two} {name}")
                    other = hall_of(book, f"{text}\nhand {two} {name}\nhand {one} {name}")
                    self.assertEqual(first.state_by(name), other.state_by(name))
                    self.assertEqual(sorted(first.known_by(name)), sorted(other.known_by(name)))
                    before = told(first)
                    first.do(f"hand {one} {name}\nhand {two} {name}\nhand {one} {name}")
                    self.assertEqual(told(first), before)
                    first.do(f"send {name} all\nhand {hall.letters_sent()} {name}")
                    self.assertEqual(told(first)[0], before[0])

    def test_meeting_again(self):
        # (d): machines that are up send all they know to each other.
        for rnd, book, many, deeds in some_halls(range(25), 30):
            hall = hall_of(book, "\n".join(deeds))
            names = [name for name in hall.machine_names() if hall.is_up(name)]
            first = hall.letters_sent()
            known = {line for name in names for line in hall.known_by(name)}
            had = {line for name in names for line in hall.state_by(name)}
            hall.do("\n".join([f"send {name} all" for name in names]))
            hands = [f"hand {first + k} {name}" for k in range(len(names)) for name in names]
            rnd.shuffle(hands)
            hall.do("\n".join(hands))
            for name in names:
                self.assertEqual(set(hall.known_by(name)), known)
                self.assertEqual(hall.state_by(name), hall.state_by(names[0]))
                self.assertTrue(had <= set(hall.state_by(name)))

    def test_the_end(self):
        # (e): a machine that goes on comes to the end, and to the answer.
        ends = endless = 0
        for rnd, book, many, deeds in some_halls(range(40), 30):
            came = flat_plain(book.flat, book.name, book.given, FUEL)
            hall = hall_of(book, "\n".join(deeds))
            for name in hall.machine_names():
                hall.do(f"rise {name}")
                had, made = len(hall.state_by(name)), hall.made_by(name)
                how = rnd.choice(["least", "greatest", "turn 7", "share 1 3"])
                if came is None:
                    hall.do(f"work {name} 40 {how}")
                    self.assertEqual(hall.made_by(name), made + 40)
                    self.assertIsNone(answer_of(net_of(book, hall.state_by(name))))
                    endless += 1
                else:
                    self.assertLessEqual(had, came.count)
                    hall.do(f"work {name} {came.count - had} {how}")
                    self.assertEqual(len(hall.state_by(name)), came.count)
                    self.assertEqual(next_lines(book, hall.state_by(name)), ())
                    self.assertTrue(answer_of(net_of(book, hall.state_by(name))) == came.value)
                    self.assertTrue(plain(book.flat.program, book.name, book.given, FUEL).value == came.value)
                    behind = told(hall)
                    hall.do(f"work {name} 5 least")
                    self.assertEqual(told(hall), behind)
                    ends += 1
        self.assertGreater(ends, 50)
        hall = hall_of(book_of("beside", "Yes"),
            "begin a\nbegin b\nwork a 40 least\nsend a all\nhand 0 b\nwork b 40 least")
        self.assertEqual((hall.made_by("a"), hall.made_by("b"), len(hall.state_by("b"))), (40, 40, 80))
        self.assertIsNone(answer_of(net_of(book_of("beside", "Yes"), hall.state_by("b"))))

    def test_tops(self):
        # (f): a machine that seeks what a letter tells by tops has the whole state of the sender behind it.
        sought = 0
        for rnd, book, many, deeds in some_halls(range(30), 30):
            hall = hall_of(book, "\n".join(deeds))
            names = [name for name in hall.machine_names() if hall.is_up(name)]
            for name in names:
                for other in names:
                    hall.do(f"send {name} tops")
                    before = hall.state_by(other)
                    hall.do(f"seek {hall.letters_sent() - 1} {other} 2000")
                    self.assertTrue(set(hall.state_by(name)) <= set(hall.state_by(other)))
                    self.assertTrue(set(before) <= set(hall.state_by(other)))
                    sought += len(hall.state_by(other)) > len(before)
        self.assertGreater(sought, 20)

    def test_double(self):
        # (g): nothing is made twice by one machine that never falls, nor by machines that hear of all work first.
        for rnd, book, _, _ in some_halls(range(25), 1):
            hall = hall_of(book, "begin a\n" + "\n".join([f"work a {rnd.randint(0, 5)} turn {rnd.randint(0, 5)}\nsend a all\nhand 0 a"
                                                         for _ in range(6)]))
            self.assertEqual(hall.double_work(), 0)
            hall = hall_of(book, "begin a\nbegin b\nbegin c")
            for _ in range(12):
                name = rnd.choice("abc")
                for other in "abc":
                    hall.do(f"send {other} {rnd.choice(['all', 'all', 'new'])}")
                for letter in range(hall.letters_sent()):
                    hall.do(f"hand {letter} {name}")
                hall.do(f"work {name} {rnd.randint(0, 3)} greatest")
            self.assertEqual(hall.double_work(), 0)
            self.assertEqual(sum([hall.made_by(name) for name in "abc"]),
                             len({line for name in "abc" for line in hall.state_by(name)}))

    def test_work_that_is_done_twice(self):
        hall = hall_of(SOME.book, "begin a\nbegin b\nwork a 99 least\nwork b 99 greatest")
        self.assertEqual(hall.double_work(), len(SOME.lines))
        self.assertEqual(set(lines_in(hall.log_by("a"))), set(lines_in(hall.log_by("b"))))


if __name__ == "__main__":
    unittest.main()
