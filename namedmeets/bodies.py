"""Ways through patterns and bodies, whatever forms they have. None of this calls itself for what is nested."""

from namedmeets.trees import Let, Place, Shape


def all_in(tree):
    """A pattern or body and all that stand in it, in the order of the text: an outer one ahead of those in it."""
    found = []
    waiting = [tree]
    while waiting:
        one = waiting.pop()
        found.append(one)
        waiting.extend(list(reversed(one.inner())))
    return found


def folded(body, fold):
    """What fold(one, told) tells of a body: told has what it tells of what stands directly in one, in order.

    It is asked for the last ones of the text first.
    """
    done = []
    for one in reversed(all_in(body)):
        # What stands in a body has been met before, the first of it last.
        told = []
        for _ in one.inner():
            told.append(done.pop())
        done.append(fold(one, told))
    return done[0]


def places_in(tree):
    """The names of all Places of a pattern or body, from left to right."""
    return [one.name for one in all_in(tree) if isinstance(one, Place)]


def shapes_in(pattern):
    """The Shapes of a pattern, from left to right, an outer one ahead of those in it."""
    return [one for one in all_in(pattern) if isinstance(one, Shape)]


def lets_in(body):
    """The Lets of a body, in the order of the word let."""
    return [one for one in all_in(body) if isinstance(one, Let)]
