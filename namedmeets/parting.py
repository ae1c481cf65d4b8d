"""Two runs compared: where the second one cannot go on like the first one."""

from namedmeets.answers import needed
from namedmeets.calls import refuse_fuel
from namedmeets.causes import with_pasts
from namedmeets.edits import AlikeDoing
from namedmeets.hanging import end_causes, whole_story
from namedmeets.labels import ROOT, is_maker, word_of
from namedmeets.nets import answer_of
from namedmeets.values import Made, parts_of
from namedmeets.ways import Story


class Parting:
    """The first thing that cannot be done alike in the other run.

    line is that of a meeting, or None; here and there are words, cell is the name of a cell, what tells how they part.
    """

    def __init__(self, line, here, there, cell, what):
        self.line = line
        self.here = here
        self.there = there
        self.cell = cell
        self.what = what


class Blame:
    """A place at which two answers are unlike, the words there, and where the runs part for it."""

    def __init__(self, place, here, there, partings):
        self.place = tuple(place)
        self.here = here
        self.there = there
        self.partings = tuple(partings)


def maker_at(story, lines, end):
    """The name of the maker that feeds a taking end behind those lines of a story that are in a table.

    It is None if no maker does, or if there is no such end.
    """
    if end not in story.onward:
        return None
    one = end
    # A giving tail goes on by the line by which its worker went.
    while one in story.onward and (one not in story.tails_gone or story.tails_gone[one] in lines):
        one = story.onward[one]
    return one[0] if is_maker(story.cells[one[0]].label) else None


def word_in(story, name):
    """The word of a maker of a story."""
    return word_of(story.cells[name].label)


class Compared:
    """Some lines of a run, a state, and those of them that are carried to another run.

    here is the story of the state, there that of what is carried; order has its lines as they can be done in both.
    """

    def __init__(self, one, other, lines):
        work = AlikeDoing(one, other)
        work.do_among(lines)
        self.order = [done.line for done in work.here.done]
        self.here = Story(one, lines)
        self.there = Story(other, self.order)

    def makers_to(self, place):
        """The pairs (taking end, the maker that feeds it) of the first run, from the root down to a place."""
        pairs = [(ROOT, maker_at(self.here, self.here.causes_of, ROOT))]
        for k in place:
            end = (pairs[-1][1], k + 1)
            pairs.append((end, maker_at(self.here, self.here.causes_of, end)))
        return pairs

    def needed_for(self, pairs):
        """A table of the lines that are needed for a place, by what makers_to tells of it."""
        lines = []
        for end, _ in pairs:
            lines.extend(end_causes(self.here, end))
        return with_pasts(self.here, lines)

    def carried_of(self, lines):
        """A table of what is carried of the lines in a table, a state of the first run."""
        kept = {}
        for line in self.order:
            causes = self.here.causes_of[line] + self.there.causes_of[line]
            if line in lines and all([cause in kept for cause in causes]):
                kept[line] = True
        return kept

    def parting_at(self, kept, line):
        """The Parting of a line that can be done in the first run behind what is carried, but is not."""
        worker, _, word = line.rpartition(".")
        cell = self.here.row_from((worker, 0))[-1][0]
        # A line by which the worker came is a cause, and so is carried.
        there = self.there.cells.get(worker)
        if there is None or there.label != self.here.cells[worker].label:
            return Parting(line, word, None, cell, "gone")
        if maker_at(self.there, kept, (worker, 0)) != cell:
            return Parting(line, word, None, cell, "gone")
        other = word_in(self.there, cell)
        return Parting(line, word, other, cell, "row" if word == other else "maker")

    def parting_down(self, kept, pairs):
        """The Parting of what stands on the way down to a place, () if there is none."""
        other = ROOT[0]
        for end, cell in pairs:
            # The same tails lead down in both runs.
            other = maker_at(self.there, kept, (other, end[1]))
            word = word_in(self.here, cell)
            other_word = None if other is None else word_in(self.there, other)
            if word != other_word:
                return (Parting(None, word, other_word, cell, "stands"),)
        return ()

    def parted_for(self, place):
        """What of that which is needed for a place cannot be done alike in the other run."""
        pairs = self.makers_to(place)
        lines = self.needed_for(pairs)
        kept = self.carried_of(lines)
        left = [line for line in sorted(list(lines)) if line not in kept]
        first = [line for line in left if all([cause in kept for cause in self.here.causes_of[line]])]
        if first:
            return tuple([self.parting_at(kept, line) for line in first])
        return self.parting_down(kept, pairs)


def parting(one, other, place, fuel):
    """What of that which is needed for a place of the answer in one run cannot be done alike in another one."""
    lines = needed(one, place, fuel)
    return None if lines is None else Compared(one, other, lines).parted_for(place)


def head_word(value):
    """The word of the cell of a value."""
    return value.maker if isinstance(value, Made) else f"#{value}"


def unlike_pairs(value, other):
    """The triples (place, word, other word) of the cells of two values that are unlike below like ones, in order."""
    found = []
    waiting = [((), value, other)]
    while waiting:
        place, one, two = waiting.pop()
        if head_word(one) != head_word(two):
            found.append((place, head_word(one), head_word(two)))
        else:
            pairs = list(zip(parts_of(one), parts_of(two)))
            for k in reversed(range(len(pairs))):
                waiting.append((place + (k,), *pairs[k]))
    return found


def unlike_places(value, other):
    """The places of the cells of two values that are unlike below like ones, in order."""
    return tuple([place for place, _, _ in unlike_pairs(value, other)])


def blame(one, other, fuel):
    """A Blame for each place at which the answers of two runs are unlike, None if one of both is above fuel."""
    refuse_fuel(fuel)
    story = whole_story(one, fuel)
    other_story = whole_story(other, fuel)
    if story is None or other_story is None:
        return None
    compared = Compared(one, other, story.lines)
    told = []
    for place, word, other_word in unlike_pairs(answer_of(story.net), answer_of(other_story.net)):
        told.append(Blame(place, word, other_word, compared.parted_for(place)))
    return tuple(told)
