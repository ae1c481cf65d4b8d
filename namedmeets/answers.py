"""What is sure of an answer before a run ends."""

from namedmeets.calls import refuse_fuel
from namedmeets.errors import NoName
from namedmeets.feeding import sources_in, value_at
from namedmeets.labels import ROOT, is_maker
from namedmeets.meetings import many_parts
from namedmeets.needing import bring_maker
from namedmeets.nets import doing_from, started
from namedmeets.values import Made, is_integer, parts_of


class Hole:
    """A part of a value that is not known yet: what a worker gives."""

    def __init__(self, worker):
        self.worker = worker

    def __eq__(self, other):
        return isinstance(other, Hole) and self.worker == other.worker


def sure(net):
    """The partial value that the root of a net takes."""
    labels = {cell.name: cell.label for cell in net.cells}
    holes = {name: Hole(name) for name, label in labels.items() if not is_maker(label)}
    return value_at(labels, sources_in(net.ties), ROOT, holes)


def has_holes(one):
    """Whether a partial value has a Hole anywhere."""
    left = [one]
    while left:
        part = left.pop()
        if isinstance(part, Hole):
            return True
        left.extend(parts_of(part))
    return False


def are_alike(one, two):
    """Whether two partial values are equal numbers, or have the same maker and as many parts."""
    if isinstance(one, Made) and isinstance(two, Made):
        return one.maker == two.maker and len(one.parts) == len(two.parts)
    return is_integer(one) and is_integer(two) and one == two


def fills(one, two):
    """Whether a partial value comes from another one by putting partial values for its holes."""
    left = [(one, two)]
    while left:
        part, other = left.pop()
        if not isinstance(part, Hole):
            if not are_alike(part, other):
                return False
            left.extend(list(zip(parts_of(part), parts_of(other))))
    return True


def has_index(k, many):
    """Whether k is the index of one of so many parts."""
    return is_integer(k) and 0 <= k < many


def partial_at(one, place):
    """Where one comes from a partial value by the indices of parts, None if there is a Hole ahead of the end."""
    part = one
    for behind, k in enumerate(place):
        if isinstance(part, Hole):
            return None
        if not has_index(k, len(parts_of(part))):
            raise NoName(behind)
        part = parts_of(part)[k]
    return part


def bring_place(book, work, place, fuel):
    """Does what is needed for a place of the answer; the names of the makers on the way down, None above fuel."""
    way = []
    end = ROOT
    for behind in range(len(place) + 1):
        if not bring_maker(work, end, fuel):
            return None
        way.append(work.source[end][0])
        if behind < len(place):
            if not has_index(place[behind], many_parts(book, work.labels[way[-1]])):
                raise NoName(behind)
            end = (way[-1], place[behind] + 1)
    return way


def needed(book, place, fuel):
    """The least state in which a number or a maker stands at a place of the answer, None above fuel."""
    refuse_fuel(fuel)
    work = doing_from(book, started(book))
    return None if bring_place(book, work, place, fuel) is None else work.lines_done()


def hangs_on(book, place, fuel):
    """The sorted start cells of values on which a place of the answer hangs, None above fuel."""
    refuse_fuel(fuel)
    start = started(book)
    work = doing_from(book, start)
    way = bring_place(book, work, place, fuel)
    if way is None:
        return None
    on_way = {name: True for name in way}
    # The names of cells of values begin with a, those of all other cells with m.
    cells = [cell.name for cell in start.cells if cell.name.startswith("a")]
    return tuple([name for name in cells if name not in work.labels or name in on_way])
