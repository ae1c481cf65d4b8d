"""A slow way to tell where a row of words goes wrong: all ways to go on are followed at once (by Earley).

A grammar is a dict from a name to the list of its forms, each a list of names and of words. Words in it that begin
with a star stand for all words of a sort; sorts tells which.
"""


def can_be_empty(grammar):
    empty = set()
    grown = True
    while grown:
        grown = False
        for name, forms in grammar.items():
            if name not in empty and any([all([one in empty for one in form]) for form in forms]):
                empty.add(name)
                grown = True
    return empty


def spread(grammar, empty, sets, at):
    """Adds all items to the last set that follow from those in it."""
    items = list(sets[at])
    while items:
        name, form, dot, origin = items.pop()
        new = []
        if dot == len(form):
            new = [(n, f, d + 1, o) for n, f, d, o in sets[origin] if d < len(f) and f[d] == name]
        elif form[dot] in grammar:
            new = [(form[dot], tuple(one), 0, at) for one in grammar[form[dot]]]
            if form[dot] in empty:
                new.append((name, form, dot + 1, origin))
        for item in new:
            if item not in sets[at]:
                sets[at].add(item)
                items.append(item)


def stands_for(sorts, told, word):
    return sorts[told](word) if told in sorts else told == word


def first_wrong(grammar, sorts, start, words):
    """The index of the first word that cannot stand there, the number of words if one is missing, None if right."""
    empty = can_be_empty(grammar)
    sets = [{(start, tuple(form), 0, 0) for form in grammar[start]}]
    spread(grammar, empty, sets, 0)
    for at, word in enumerate(words):
        found = {(n, f, d + 1, o) for n, f, d, o in sets[at]
                 if d < len(f) and f[d] not in grammar and stands_for(sorts, f[d], word)}
        if not found:
            return at
        sets.append(found)
        spread(grammar, empty, sets, at + 1)
    if any([n == start and d == len(f) and o == 0 for n, f, d, o in sets[-1]]):
        return None
    return len(words)
