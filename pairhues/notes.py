"""Deeds as lines of text, and a hall that is played by such lines."""

from pairhues.errors import BadEnd, BadLine, NoPair, TooMany
from pairhues.halls import Hall

_COME = "come"
_GO = "go"
_MOST_FIGURES = 30


def line_of(deed):
    """Tell the text of a deed, ("come", left, right) or ("go", number)."""
    return _spaced(deed)


def deed_of(line):
    """Tell the deed of which a line is the text."""
    if type(line) != str:
        raise BadLine("no text")
    # By the single blank: one blank too many leaves a word without figures.
    word, *numbers = line.split(" ")
    if len(numbers) != _many_behind(word) or not all([_is_number(text) for text in numbers]):
        raise BadLine("not the text of a deed")
    return (word,) + tuple([int(text) for text in numbers])


def play(lefts, rights, lines):
    """Tell what a new hall tells of each line, as a list of texts for each."""
    hall = Hall(lefts, rights)
    told = []
    for line in lines:
        told.append(_answer(hall, line))
    return told


def _answer(hall, line):
    """Do what a line says and tell its texts; one text where it is refused."""
    try:
        told = _done(hall, deed_of(line))
    except BadLine:
        return ["bad line"]
    except BadEnd:
        return ["bad end"]
    except TooMany:
        return ["too many"]
    except NoPair:
        return ["no pair"]
    return [_text_of(row) for row in told]


def _done(hall, deed):
    """Do a deed and tell the tuples that the hall tells of it, as a list."""
    if deed[0] == _COME:
        return [hall.come(deed[1], deed[2])]
    return hall.go(deed[1])


def _text_of(row):
    """Tell the text of a tuple (number, hue, other hue, chain)."""
    number, hue, other, chain = row
    if other is None:
        return _spaced([number, hue])
    return _spaced([number, hue, other, *chain])


def _spaced(parts):
    """Tell words and numbers with one blank between."""
    return " ".join([str(part) for part in parts])


def _many_behind(word):
    """Tell how many numbers stand behind the word of a deed; None behind another."""
    if word == _COME:
        return 2
    if word == _GO:
        return 1
    return None


def _is_number(text):
    """Tell whether a text is a number by figures without noughts ahead."""
    if not 1 <= len(text) <= _MOST_FIGURES:
        return False
    if text.startswith("0") and text != "0":
        return False
    # Not isdigit: figures of other scripts would pass it.
    return all([sign in "0123456789" for sign in text])
