"""Tables of what the names of a program stand for."""

NUM = "Num"
TRUTH = "Truth"
SIGNS = ("+", "-", "*", "<", "=")
COMPARING = ("<", "=")


def named_in(things, name):
    """The first of some things with names that has this name, None if none has. The name may be any value."""
    for thing in things:
        if thing.name == name:
            return thing
    return None


def makers_of(kinds):
    """From the name of a maker to the pair of the Maker and the name of its kind."""
    table = {}
    for kind in kinds:
        for maker in kind.makers:
            table[maker.name] = (maker, kind.name)
    return table


def heads_of(kinds, functions):
    """From each name that an Applied may have to the pair of the kinds of its parts and its own kind."""
    table = {}
    for function in functions:
        table[function.name] = (function.places, function.result)
    for kind in kinds:
        for maker in kind.makers:
            table[maker.name] = (maker.places, kind.name)
    for sign in SIGNS:
        table[sign] = ((NUM, NUM), TRUTH if sign in COMPARING else NUM)
    return table
