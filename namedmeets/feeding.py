"""Values that are built from what feeds taking ends."""

from namedmeets.labels import is_maker
from namedmeets.values import Made


def sources_in(ties):
    """For each taking end the giving end to which it is tied."""
    return {taking: giving for giving, taking in ties}


def tails_of(source, name):
    """How many tails a maker has, by its ties."""
    many = 0
    while (name, many + 1) in source:
        many += 1
    return many


def value_at(labels, source, end, given):
    """The value that a taking end takes; given has for each worker what stands for that which it gives."""
    met = []
    waiting = [end]
    while waiting:
        name = source[waiting.pop()][0]
        many = tails_of(source, name) if is_maker(labels[name]) else 0
        met.append((name, many))
        for k in reversed(range(1, many + 1)):
            waiting.append((name, k))
    built = []
    for name, many in reversed(met):
        # The parts have been built before, the last one first.
        parts = [built.pop() for _ in range(many)]
        label = labels[name]
        if label[0] == "maker":
            built.append(Made(label[1], tuple(parts)))
        else:
            built.append(label[1] if label[0] == "number" else given[name])
    return built[0]
