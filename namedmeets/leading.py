"""Leading bodies of the text to flat ones: putting bodies in for names, so that each name stands once."""

from namedmeets.bodies import folded, places_in
from namedmeets.flat import Copy, Leave, copies_in
from namedmeets.trees import Applied, Place


class Namer:
    """Gives new names: a working object. They have a point, which no name of a text has; taken are not given."""

    def __init__(self, taken):
        self.taken = dict(taken)
        self.given = 0

    def new_names(self, many):
        """So many names that have not been given before."""
        names = []
        while len(names) < many:
            name = f"n.{self.given}"
            self.given += 1
            if name not in self.taken:
                names.append(name)
        return tuple(names)


def replaced(body, name, bodies):
    """A body with others in the places of a name, from left to right."""
    left = list(bodies)

    def fold(one, told):
        if isinstance(one, Place) and one.name == name:
            # The last place is met first.
            return left.pop()
        return one.with_inner(told)

    return folded(body, fold)


def put_in(namer, part, name, body):
    """A body with a part put in for a name, left or copied where the name does not stand exactly once."""
    many = places_in(body).count(name)
    if many == 0:
        return Leave(part, body)
    if many == 1:
        return replaced(body, name, [part])
    ones = namer.new_names(many - 1)
    rests = namer.new_names(many - 1)
    whole = replaced(body, name, [Place(new) for new in (*ones, rests[-1])])
    for k in reversed(range(1, many - 1)):
        whole = Copy(Place(rests[k - 1]), ones[k], rests[k], whole)
    return Copy(part, ones[0], rests[0], whole)


def own_names_once(namer, names, body):
    """The body of a row with these names, each of which then stands exactly once."""
    for name in reversed(names):
        # Where the name stands once, it comes into its own place.
        body = put_in(namer, Place(name), name, body)
    return body


def with_makers(namer, looked, body):
    """A body with what stands for each name whose value was looked at: its maker and the names of its parts."""
    for name, maker, names in looked:
        if name in places_in(body):
            body = put_in(namer, Applied(maker, [Place(new) for new in names]), name, body)
    return body


def called_in_place(namer, start, parts):
    """The body of a Start or FlatRow with parts in the places of its names, those that its Copies give made new."""
    given = dict(zip(start.names, parts))
    renamed = {}
    for copy in copies_in(start.body):
        renamed[copy.one], renamed[copy.two] = namer.new_names(2)

    def fold(one, told):
        if isinstance(one, Copy):
            return Copy(told[0], renamed[one.one], renamed[one.two], told[1])
        if isinstance(one, Place):
            return given[one.name] if one.name in given else Place(renamed[one.name])
        return one.with_inner(told)

    return folded(start.body, fold)
