"""What hangs on what: the ways from what stands in the answer up to lines, and to the cells of the values."""

from namedmeets.causes import heights, with_pasts
from namedmeets.feeding import sources_in
from namedmeets.labels import ROOT, is_maker
from namedmeets.meaning import ends_within
from namedmeets.meetings import many_parts
from namedmeets.nets import done_all, started
from namedmeets.values import is_integer
from namedmeets.ways import Story


def is_of_values(name):
    """Whether the name of a start cell, or of one that came later, is that of a cell of the values."""
    return name.startswith("a")


def makers_down(net, place):
    """The makers that stand in a net from the root down to a place of the answer; None if one of them does not."""
    labels = {cell.name: cell.label for cell in net.cells}
    source = sources_in(net.ties)
    names = []
    end = ROOT
    for depth in range(len(place) + 1):
        if end not in source or not is_maker(labels[source[end][0]]):
            return None
        names.append(source[end][0])
        if depth < len(place):
            if not is_integer(place[depth]):
                return None
            end = (names[-1], place[depth] + 1)
    return names


def ends_down(names, place):
    """The taking ends that these makers feed, from the root down to a place of the answer."""
    return [ROOT] + [(name, k + 1) for name, k in zip(names, place)]


def end_causes(story, end):
    """The lines that brought what stands at a taking end: by which it came, or by which workers on its way went."""
    way = story.row_from(end)
    lines = [story.tails_gone[one] for one in way if one in story.tails_gone]
    born = story.lines_born.get(way[-1][0])
    return lines if born is None else [*lines, born]


def cells_on(story, names):
    """The sorted cells of the values that are gone in a story, or that are among some names."""
    known = {name: True for name in names}
    cells = [name for name in story.all_names() if is_of_values(name)]
    return tuple([name for name in cells if name in story.lines_gone or name in known])


def whole_story(book, fuel):
    """The Story of the whole run of a book, None if it has more than fuel lines."""
    if not ends_within(book, fuel):
        return None
    return Story(book, done_all(book, started(book), fuel)[1])


def answer_cells(story):
    """The triples (place, taking end, name of the maker that feeds it) of the answer of a whole run, in order."""
    source = sources_in(story.net.ties)
    found = []
    waiting = [((), ROOT)]
    while waiting:
        place, end = waiting.pop()
        name = source[end][0]
        found.append((place, end, name))
        for k in reversed(range(many_parts(story.book, story.cells[name].label))):
            waiting.append((place + (k,), (name, k + 1)))
    return found


def lines_behind(story, line):
    """A table of a line of a story and of all lines that it comes ahead of."""
    behind = {line: True}
    for one, _ in heights(story):
        if any([cause in behind for cause in story.causes_of[one]]):
            behind[one] = True
    return behind


def places_on(story, name):
    """The places of the answer of a whole run, in order, that hang on a cell of the values."""
    line = story.lines_gone.get(name)
    behind = {} if line is None else lines_behind(story, line)
    hanging = {}
    for place, end, cell in answer_cells(story):
        # What is needed for a place is needed for those below it, too.
        above = hanging.get(place[:-1], False)
        hanging[place] = above or cell == name or any([cause in behind for cause in end_causes(story, end)])
    return tuple([place for place, hangs in hanging.items() if hangs])


def idle_names(story):
    """The sorted cells of the values on which no place of the answer of a whole run hangs."""
    cells = answer_cells(story)
    lines = []
    for _, end, _ in cells:
        lines.extend(end_causes(story, end))
    needed = with_pasts(story, lines)
    standing = {name: True for _, _, name in cells}
    names = [name for name in story.all_names() if is_of_values(name) and name not in standing]
    return tuple([name for name in names if story.lines_gone[name] not in needed])
