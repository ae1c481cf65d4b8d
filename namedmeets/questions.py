"""Questions: which row of a function of the text counts, as far as the makers that were looked at tell."""

from namedmeets.trees import Place, Shape


class Choice:
    """A row that is left in a question.

    index is that of the row, patterns has one for each place of the question. looked tells of each Place that stood
    for a value that was looked at, in order: the triple of its name, the maker that was found, and the names that
    the Places of the maker's parts have.
    """

    def __init__(self, index, patterns, looked):
        self.index = index
        self.patterns = tuple(patterns)
        self.looked = tuple(looked)


class Question:
    """Places, told by the names of their kinds, and the rows that are left for them."""

    def __init__(self, places, choices):
        self.places = tuple(places)
        self.choices = tuple(choices)

    def first_names(self):
        """The names of the first row, where the question is settled."""
        return tuple([pattern.name for pattern in self.choices[0].patterns])


def first_question(function):
    """The question of a function: its places, and all its rows."""
    return Question(function.places, [Choice(k, row.patterns, ()) for k, row in enumerate(function.rows)])


def looked_at(question):
    """The index of the place that is looked at, None if the question is settled."""
    for k, pattern in enumerate(question.choices[0].patterns):
        if isinstance(pattern, Shape):
            return k
    return None


def narrowed_choice(choice, at, maker, namer):
    """A row behind a look at a place that finds this maker, None if the row is left out."""
    pattern = choice.patterns[at]
    others = choice.patterns[:at] + choice.patterns[at + 1:]
    if isinstance(pattern, Shape):
        if pattern.maker != maker.name:
            return None
        return Choice(choice.index, pattern.parts + others, choice.looked)
    names = namer.new_names(len(maker.places))
    parts = tuple([Place(name) for name in names])
    return Choice(choice.index, parts + others, (*choice.looked, (pattern.name, maker.name, names)))


def narrowed(question, at, maker, namer):
    """The question behind a look at a place that finds this maker."""
    places = maker.places + question.places[:at] + question.places[at + 1:]
    choices = [narrowed_choice(choice, at, maker, namer) for choice in question.choices]
    return Question(places, [choice for choice in choices if choice is not None])
