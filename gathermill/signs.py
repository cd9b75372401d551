"""The SIGNS of which a text of the language is made."""

from gathermill.errors import BadText
from gathermill.values import GREATEST, KEYS, LONGEST

MARKS = "+-*/~<=(){}[],;"
MARKS_WITH_EQUAL = ("<=", "==", "!=")
LETTERS = "abcdefghijklmnopqrstuvwxyz"
FIGURES = "0123456789"


def signs_of(text):
    """The tuple of the SIGNS of text, each a triple (kind, what, line)."""
    signs = []
    at = 0
    line = 1
    while at < len(text):
        if text[at] == "\n":
            line += 1
            at += 1
        elif text[at] == " ":
            at += 1
        elif text[at] == "#":
            at = end_of_remark(text, at)
        else:
            kind, what, at = sign_at(text, at, line)
            signs.append((kind, what, line))
    return tuple(signs)


def end_of_remark(text, at):
    """The place of the line feed that ends the remark, or the end of text."""
    end = text.find("\n", at)
    return len(text) if end < 0 else end


def sign_at(text, at, line):
    """The kind and the what of the SIGN that begins at this place, and the place behind it."""
    if text[at] in LETTERS:
        return name_at(text, at, line)
    if text[at] in FIGURES:
        return number_at(text, at, line)
    if text[at] == '"':
        return word_at(text, at, line)
    if text[at:at + 2] in MARKS_WITH_EQUAL:
        return ("mark", text[at:at + 2], at + 2)
    if text[at] in MARKS:
        return ("mark", text[at], at + 1)
    raise BadText(line)


def end_of_row(text, at, allowed):
    """The first place from at on at which none of the allowed characters stands."""
    while at < len(text) and text[at] in allowed:
        at += 1
    return at


def name_at(text, at, line):
    """The key or the name that begins at this place."""
    end = end_of_row(text, at, LETTERS)
    letters = text[at:end]
    if len(letters) > LONGEST:
        raise BadText(line)
    return ("key" if letters in KEYS else "name", letters, end)


def number_at(text, at, line):
    """The number that begins at this place."""
    end = end_of_row(text, at, FIGURES)
    figures = text[at:end]
    # Python refuses to read a row of several thousand figures, so the length is looked at first.
    if (figures[0] == "0" and len(figures) > 1) or len(figures) > len(str(GREATEST)):
        raise BadText(line)
    if int(figures) > GREATEST:
        raise BadText(line)
    return ("number", int(figures), end)


def word_at(text, at, line):
    """The word in quotes that begins at this place."""
    end = end_of_row(text, at + 1, LETTERS)
    letters = text[at + 1:end]
    if not 1 <= len(letters) <= LONGEST or text[end:end + 1] != '"':
        raise BadText(line)
    return ("word", letters, end + 1)
