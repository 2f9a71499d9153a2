"""Texts gone through in words: names, numbers and signs."""

from turnery.errors import NoText

# Written out, as Python's own tests for letters and figures take those of other writings too.
LETTERS = "abcdefghijklmnopqrstuvwxyz"
FIGURES = "0123456789"
SIGNS = "();:=|*"
MOST_LETTERS = 8
MOST_FIGURES = 60


def words(text):
    """The list of the text's words, each as a text; refused with NoText where it has anything else in it."""
    if not isinstance(text, str):
        raise NoText("this is no text")
    told = []
    start = 0
    while start < len(text):
        if text[start] == " ":
            start += 1
        else:
            word = word_at(text, start)
            told.append(word)
            start += len(word)
    return told


def is_name(word):
    """Whether the text is a name."""
    return 1 <= len(word) <= MOST_LETTERS and all([sign in LETTERS for sign in word])


def word_at(text, start):
    first = text[start]
    if first in SIGNS:
        return first
    if first in LETTERS:
        return name_at(text, start)
    if first == "-":
        return "-" + below_zero_at(text, start + 1)
    if first in FIGURES:
        return figures_at(text, start)
    raise NoText(f"no word begins with {first!r}")


def name_at(text, start):
    name = run_at(text, start, LETTERS)
    if len(name) > MOST_LETTERS:
        raise NoText(f"{name!r} has too many letters")
    return name


def below_zero_at(text, start):
    figures = figures_at(text, start)
    if figures == "0":
        raise NoText("0 is written without '-'")
    return figures


def figures_at(text, start):
    figures = run_at(text, start, FIGURES)
    if figures == "":
        raise NoText("'-' has no figure right behind it")
    if len(figures) > MOST_FIGURES:
        raise NoText(f"{figures!r} has too many figures")
    if figures[0] == "0" and len(figures) > 1:
        raise NoText(f"{figures!r} has a 0 ahead of other figures")
    return figures


def run_at(text, start, signs):
    end = start
    while end < len(text) and text[end] in signs:
        end += 1
    return text[start:end]
