"""Halls done slowly: each deed by the words of [67], and every state found anew from what is known."""

from namedmeets.demands import least_state
from namedmeets.logs import is_line, log_text
from namedmeets.states import next_lines
from namedmeets.causes import heights, tops
from namedmeets.ways import Story
from tests.slownets import done_slowly


def pieces(text):
    """The LINEs of a log, each once."""
    return list(dict.fromkeys([piece for piece in text.split("\n")[:-1] if is_line(piece)]))


class SlowHall:
    def __init__(self, book):
        self.book = book
        self.up, self.logs, self.known, self.sent, self.made = {}, {}, {}, {}, {}
        self.letters = []
        self.all_made = []

    def state(self, name):
        words = self.known[name] if self.up[name] else pieces(self.logs[name])
        return sorted(done_slowly(self.book, words))

    def lines_known(self, name):
        return list(self.known[name]) if self.up[name] else pieces(self.logs[name])

    def learn(self, name, lines):
        for line in lines:
            if line not in self.known[name]:
                self.known[name].append(line)
                if self.logs[name] and not self.logs[name].endswith("\n"):
                    self.logs[name] += "\n"
                self.logs[name] += line + "\n"

    def make(self, name, lines):
        self.learn(name, lines)
        self.made[name] += len(lines)
        self.all_made.extend(lines)

    def take(self, lines, how):
        if how[0] == "least":
            return min(lines)
        if how[0] == "greatest":
            return max(lines)
        if how[0] == "turn":
            return sorted(lines)[int(how[1]) % len(lines)]
        rest, by = int(how[1]), int(how[2])
        fit = [line for line in sorted(lines) if by and len(line) % by == rest]
        return fit[0] if fit else min(lines)

    def work(self, name, many, *how):
        for _ in range(int(many)):
            lines = next_lines(self.book, self.state(name))
            if not lines:
                return
            self.make(name, [self.take(lines, how)])

    def send(self, name, what):
        if what == "tops":
            lines = list(tops(Story(self.book, self.state(name))))
        else:
            lines = [line for line in self.known[name] if what == "all" or line not in self.sent[name]]
        self.sent[name].update(lines)
        self.letters.append(log_text(lines))

    def seek(self, letter, name, many):
        for line in pieces(self.letters[int(letter)]):
            state = self.state(name)
            least = least_state(self.book, list(state) + [line], len(state) + min(int(many), 300))
            if least is not None and len(least) - len(state) <= int(many):
                order = [one for one, _ in heights(Story(self.book, least)) if one not in state]
                self.make(name, order)

    def do(self, deed):
        word, rest = deed[0], deed[1:]
        if word == "begin":
            if rest[0] not in self.up:
                name = rest[0]
                self.up[name], self.logs[name], self.known[name], self.sent[name] = True, "", [], set()
                self.made[name] = 0
        elif word == "note":
            self.letters.append(log_text(rest))
        elif word == "tear":
            if int(rest[0]) < len(self.letters):
                self.letters[int(rest[0])] = self.letters[int(rest[0])][:int(rest[1])]
        elif word in ("hand", "seek"):
            if int(rest[0]) < len(self.letters) and self.up.get(rest[1]):
                if word == "hand":
                    self.learn(rest[1], pieces(self.letters[int(rest[0])]))
                else:
                    self.seek(*rest)
        elif word == "rise":
            name = rest[0]
            if self.up.get(name) is False:
                if self.logs[name] and not self.logs[name].endswith("\n"):
                    self.logs[name] += "\n"
                self.up[name], self.known[name], self.sent[name] = True, pieces(self.logs[name]), set()
        elif self.up.get(rest[0]):
            name = rest[0]
            if word == "work":
                self.work(*rest)
            elif word == "send":
                self.send(*rest)
            elif word == "fall":
                self.up[name] = False
                self.logs[name] = self.logs[name][:max(0, len(self.logs[name]) - int(rest[1]))]
            else:
                self.known[name] = self.state(name)
                self.logs[name] = log_text(self.known[name])

    def double(self):
        return sum(self.made.values()) - len(set(self.all_made))


NAMES = ("a", "b", "c", "d")


def some_deed(rnd, many, lines, letters):
    """A deed by chance, for so many machines; lines are some of the run, letters how many there may be."""
    name, letter = rnd.choice(NAMES[:many]), rnd.randrange(letters)
    how = rnd.choice(["least", "greatest", f"turn {rnd.randint(0, 9)}",
        f"share {rnd.randint(0, 4)} {rnd.randint(0, 4)}"])
    torn = rnd.choice(lines)[:rnd.randint(3, 30)] if lines else "m:0.A"
    words = " ".join([rnd.choice(lines + [torn, "word", "m:0.Nope"]) for _ in range(rnd.randint(1, 4))])
    return rnd.choice([
        f"begin {name}", f"work {name} {rnd.randint(0, 4)} {how}", f"work {name} {rnd.randint(1, 6)} {how}",
        f"work {name} {rnd.randint(1, 3)} {how}", f"send {name} all", f"send {name} new", f"send {name} new",
        f"send {name} tops",
        f"note {words}", f"tear {letter} {rnd.randint(0, 120)}", f"hand {letter} {name}", f"hand {letter} {name}",
        f"hand {letter} {name}", f"seek {letter} {name} {rnd.randint(0, 9)}", f"fall {name} {rnd.randint(0, 40)}",
        f"rise {name}", f"rise {name}", f"clean {name}",
    ])


def some_weaving(rnd, many, lines, length):
    """The deeds of a weaving of so many machines by chance, as a list of lines."""
    deeds = [f"begin {name}" for name in NAMES[:many - 1]]
    return deeds + [some_deed(rnd, many, lines, 8) for _ in range(length)]
