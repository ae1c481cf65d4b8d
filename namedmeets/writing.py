"""Writing the lines of a program, the words parted in the one way."""

from namedmeets.tables import TRUTH
from namedmeets.trees import Applied, Let, Number, Place, Shape


def line_of(words):
    """The line of some words, parted by single blanks, but none behind ( or ahead of )."""
    pieces = []
    # No blank stands ahead of the first word, as none does behind a parenthesis.
    last = "("
    for word in words:
        if last != "(" and word != ")":
            pieces.append(" ")
        pieces.append(word)
        last = word
    return "".join(pieces)


def in_parentheses(tree):
    """Whether a pattern, or a body that is a part of an Applied, stands in parentheses."""
    if isinstance(tree, (Shape, Applied)):
        return len(tree.parts) > 0
    return isinstance(tree, Let)


def parted(inner):
    """What stands for some parts: words, and patterns or bodies that are still to be written."""
    told = []
    for one in inner:
        if in_parentheses(one):
            told.extend(["(", one, ")"])
        else:
            told.append(one)
    return told


def told_by(tree):
    """What stands for a pattern or body: words, and patterns or bodies that are still to be written."""
    if isinstance(tree, Place):
        return [tree.name]
    if isinstance(tree, Number):
        return [str(tree.number)]
    if isinstance(tree, Let):
        return ["let", tree.name, "=", tree.one, "in", tree.body]
    if isinstance(tree, Shape):
        return [tree.maker] + parted(tree.parts)
    return [tree.name] + parted(tree.parts)


def words_by(told):
    """The words of a list of words, and of patterns and bodies."""
    words = []
    waiting = list(reversed(told))
    while waiting:
        one = waiting.pop()
        if isinstance(one, str):
            words.append(one)
        else:
            waiting.extend(list(reversed(told_by(one))))
    return words


def kind_line(kind):
    """The line of a kind."""
    makers = [" ".join([maker.name, *maker.places]) for maker in kind.makers]
    return "kind " + kind.name + " = " + " | ".join(makers)


def function_lines(function):
    """The fun line of a function, and its rows."""
    lines = [line_of(["fun", function.name, *function.places, "=", function.result])]
    for row in function.rows:
        told = [function.name] + parted(row.patterns) + ["=", row.body]
        lines.append(line_of(words_by(told)))
    return lines


def written_lines(program):
    """All lines of a program."""
    lines = [kind_line(kind) for kind in program.kinds if kind.name != TRUTH]
    for function in program.functions:
        lines.extend(function_lines(function))
    return lines
