"""Forms of lines: which words may stand where.

A form is a tuple of words. A stands for any small name, 6 and 9 for an integer from 0 on as it is written, of at most
so many digits; each other word stands for itself.
"""

from namedmeets.errors import BadText
from namedmeets.words import end_of, is_natural, is_small


def can_stand(told, word):
    """Whether a word can stand where a form has this one."""
    if told == "A":
        return is_small(word)
    if told == "6" or told == "9":
        return is_natural(word) and len(word) <= int(told)
    return told == word


def refuse_formless(forms, words, line):
    """Raises BadText for the first of the words of a line, with their columns, that stands so in none of some forms."""
    left = list(forms)
    for k, (word, column) in enumerate(words):
        left = [form for form in left if k < len(form) and can_stand(form[k], word)]
        if len(left) == 0:
            raise BadText(line, column)
    if len(words) not in [len(form) for form in left]:
        raise BadText(line, end_of(words))
