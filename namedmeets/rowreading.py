"""Reading the words of lines: the patterns and the body of a row."""

from namedmeets.errors import BadText
from namedmeets.tables import SIGNS
from namedmeets.trees import Applied, Let, Number, Place, Shape
from namedmeets.words import end_of, is_big, is_number, is_small


class Reader:
    """The words of a line, and how many of them have been taken: a working object."""

    def __init__(self, line, words):
        self.line = line
        self.words = words
        self.at = 0

    def next_word(self):
        """The word that comes next, "" if there is none."""
        return self.words[self.at][0] if self.at < len(self.words) else ""

    def refuse(self):
        """The next word cannot stand there, or is missing."""
        if self.at < len(self.words):
            raise BadText(self.line, self.words[self.at][1])
        raise BadText(self.line, end_of(self.words))

    def take_next(self):
        """Takes the next word, whatever it is."""
        word = self.next_word()
        self.at += 1
        return word

    def taken(self, fitting):
        """Takes the next word, which must be such that fitting tells True of it."""
        if not fitting(self.next_word()):
            self.refuse()
        return self.take_next()

    def pass_over(self, word):
        """Takes the next word, which must be this one."""
        if self.next_word() != word:
            self.refuse()
        self.take_next()

    def must_end(self):
        """The line must be at its end."""
        if self.at < len(self.words):
            self.refuse()


def patterns_from(reader):
    """The patterns that stand ahead of the next word = outside of parentheses, which is taken, too."""
    opened = [[]]
    while len(opened) > 1 or reader.next_word() != "=":
        told = opened[-1]
        word = reader.next_word()
        if len(opened) > 1 and len(told) == 0:
            told.append(reader.taken(is_big))
        elif word == "(":
            opened.append([])
            reader.take_next()
        elif word == ")" and len(opened) > 1:
            opened.pop()
            opened[-1].append(Shape(told[0], told[1:]))
            reader.take_next()
        elif is_small(word):
            told.append(Place(reader.take_next()))
        else:
            told.append(Shape(reader.taken(is_big), ()))
    reader.pass_over("=")
    return opened[0]


class Opened:
    """A body that is being read: a working object.

    opener is the word that opened it: "(", or "=" for the first body of a let, or "in" for the second one, or ""
    for that of the row. name and one are those of the let. head is None as long as the body has no word, then the
    name of an Applied whose parts come next, or a body that is complete.
    """

    def __init__(self, opener, name, one):
        self.opener = opener
        self.name = name
        self.one = one
        self.head = None
        self.parts = []

    def is_open(self):
        """Whether one more part can come."""
        if not isinstance(self.head, str):
            return False
        return self.head not in SIGNS or len(self.parts) < 2

    def is_whole(self):
        """Whether the body can end here."""
        return self.head is not None and (self.head not in SIGNS or len(self.parts) == 2)

    def whole_body(self):
        """The body that was read."""
        return Applied(self.head, self.parts) if isinstance(self.head, str) else self.head

    def take_body(self, body):
        """Takes a complete body, as a part or as the whole of this one."""
        if self.head is None:
            self.head = body
        else:
            self.parts.append(body)


def atom_of(word, bound):
    """The body that a word is by itself, with these names bound; None if it is none."""
    if is_number(word):
        return Number(int(word))
    if word in bound:
        return Place(word)
    if is_small(word) or is_big(word):
        return Applied(word, ())
    return None


class BodyReader:
    """Reads the body of a row: a working object. opened are the bodies that are not complete, outer ones first."""

    def __init__(self, reader, bound):
        self.reader = reader
        self.bound = list(bound)
        self.opened = [Opened("", None, None)]

    def close(self):
        """The last body is complete, and goes into the one around it."""
        last = self.opened.pop()
        body = last.whole_body()
        if last.opener == "in":
            self.bound.pop()
            body = Let(last.name, last.one, body)
        self.opened[-1].take_body(body)

    def close_up_to(self, opener):
        """Second bodies of lets end where what stands around them does, which must be a body with this opener."""
        if not self.opened[-1].is_whole():
            self.reader.refuse()
        while self.opened[-1].opener == "in":
            self.close()
        if self.opened[-1].opener != opener:
            self.reader.refuse()

    def close_parenthesis(self):
        """A parenthesis ends."""
        self.close_up_to("(")
        self.reader.take_next()
        self.close()

    def close_first(self):
        """The first body of a let ends, and its second one begins, in which its name is bound."""
        self.close_up_to("=")
        self.reader.take_next()
        first = self.opened.pop()
        self.bound.append(first.name)
        self.opened.append(Opened("in", first.name, first.whole_body()))

    def begin_let(self):
        """A let: its name, and its first body begins."""
        self.reader.take_next()
        name = self.reader.taken(is_small)
        self.reader.pass_over("=")
        self.opened.append(Opened("=", name, None))

    def begin_parenthesis(self):
        """A body in parentheses begins."""
        self.reader.take_next()
        self.opened.append(Opened("(", None, None))

    def take_atom(self):
        """A word that is a body by itself."""
        body = atom_of(self.reader.next_word(), self.bound)
        if body is None:
            self.reader.refuse()
        self.reader.take_next()
        self.opened[-1].take_body(body)

    def take_head(self):
        """The first word of a body."""
        word = self.reader.next_word()
        if word == "let":
            self.begin_let()
        elif word in SIGNS or (word not in self.bound and (is_small(word) or is_big(word))):
            self.opened[-1].head = self.reader.take_next()
        else:
            self.take_atom()

    def take_word(self):
        """The next word of the body."""
        word = self.reader.next_word()
        last = self.opened[-1]
        if word == "(" and (last.head is None or last.is_open()):
            self.begin_parenthesis()
        elif last.head is None:
            self.take_head()
        elif word == ")":
            self.close_parenthesis()
        elif word == "in":
            self.close_first()
        elif last.is_open():
            self.take_atom()
        else:
            self.reader.refuse()


def body_from(reader, bound):
    """The body that the other words of a line tell, with these names bound."""
    bodies = BodyReader(reader, bound)
    while reader.next_word() != "":
        bodies.take_word()
    bodies.close_up_to("")
    return bodies.opened[0].whole_body()
