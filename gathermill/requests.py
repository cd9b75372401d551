"""Requests: the lines that a desk works."""

from gathermill.errors import BadText
from gathermill.signs import FIGURES

# For each word how many numbers stand behind it at the least and at the most (None: any number), and if it has a text.
FORMS = {
    "text": (0, 0, True),
    "codes": (0, 0, True),
    "limits": (3, 3, False),
    "schedule": (1, None, False),
    "turn": (1, 1, False),
    "whole": (0, 0, False),
    "read": (0, 0, True),
    "undo": (0, 0, False),
    "shown": (0, 0, False),
    "end": (0, 0, False),
    "turns": (0, 0, False),
    "frames": (0, 0, False),
    "at": (0, 0, False),
    "words": (0, 0, False),
    "breaches": (0, 0, False),
    "image": (0, 0, False),
}
MOST_FIGURES = 6


class Request:
    """A request as it stands: its line, the words of this, and the lines of its text."""

    def __init__(self, line, row):
        self.line = line
        self.parts = row.split(" ")
        self.rows = []

    def first_word(self):
        """The word with which the request begins."""
        return self.parts[0]

    def told_numbers(self):
        """The list of the numbers behind the word."""
        return [int(part) for part in self.parts[1:]]

    def whole_text(self):
        """The text of the request."""
        return "\n".join(self.rows)

    def is_right(self):
        """Whether this is a request."""
        if self.first_word() not in FORMS:
            return False
        least, most, has_text = FORMS[self.first_word()]
        many = len(self.parts) - 1
        if many < least or (most is not None and many > most) or has_text != (len(self.rows) > 0):
            return False
        return all([is_short_number(part) for part in self.parts[1:]])


def is_short_number(part):
    """Whether part is a number as it stands in requests."""
    if not 1 <= len(part) <= MOST_FIGURES or not all([sign in FIGURES for sign in part]):
        return False
    return part[0] != "0" or part == "0"


def requests_of(text):
    """The list of the requests in a text, which is not empty; BadText for the first line that begins none."""
    found = []
    for line, row in enumerate(text.split("\n"), 1):
        if not row.startswith(" "):
            found.append(Request(line, row))
        elif found:
            found[-1].rows.append(row[1:])
        else:
            raise BadText(line)
    for request in found:
        if not request.is_right():
            raise BadText(request.line)
    return found
