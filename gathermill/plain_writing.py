"""Writings: numbers, truths, nothing, strings and tuples in one line."""

from gathermill.errors import BadText
from gathermill.signs import FIGURES, end_of_row

SIGNS_IN_WORDS = "abcdefghijklmnopqrstuvwxyz0123456789-"
SIGNS_IN_STRINGS = "abcdefghijklmnopqrstuvwxyz0123456789-@ "
WORDS = {"true": True, "false": False, "nothing": None}


def writing(value):
    """The writing of a value."""
    built = []
    # What is to be written, the next one last: pairs of whether it is writing already, and what it is.
    waiting = [(False, value)]
    while waiting:
        is_written, own = waiting.pop()
        if is_written:
            built.append(own)
        elif isinstance(own, tuple):
            built.append("(")
            waiting.append((True, ")"))
            waiting.extend(parted_members(own))
        else:
            built.append(simple_writing(own))
    return "".join(built)


def parted_members(members):
    """What is to be written for the members of a tuple, the next one last."""
    told = []
    for own in members:
        told.append((False, own))
        told.append((True, " "))
    return told[-2::-1]


def simple_writing(value):
    """The writing of what is no tuple."""
    if isinstance(value, bool):
        return "true" if value else "false"
    if value is None:
        return "nothing"
    return f'"{value}"' if isinstance(value, str) else str(value)


class Writing:
    """A line, up to where it is read."""

    def __init__(self, text, line):
        self.text = text
        self.line = line
        self.at = 0

    def refuse(self):
        """The line is no writing."""
        raise BadText(self.line)

    def comes(self, sign):
        """Whether this sign comes next."""
        return self.text[self.at:self.at + 1] == sign

    def passes(self, sign):
        """Whether this sign comes next; if so it is passed over."""
        if not self.comes(sign):
            return False
        self.at += 1
        return True

    def simple(self):
        """The value that comes next, which is no tuple."""
        if self.passes('"'):
            return self.string()
        begin = self.at
        self.at = end_of_row(self.text, begin, SIGNS_IN_WORDS)
        part = self.text[begin:self.at]
        if part in WORDS:
            return WORDS[part]
        if not is_number_writing(part):
            self.refuse()
        return int(part)

    def string(self):
        """The string that comes next, behind its first quote."""
        begin = self.at
        self.at = end_of_row(self.text, begin, SIGNS_IN_STRINGS)
        own = self.text[begin:self.at]
        if not self.passes('"'):
            self.refuse()
        return own


def is_number_writing(part):
    """Whether part is the writing of a number."""
    figures = part[1:] if part[:1] == "-" else part
    if figures == "" or not all([sign in FIGURES for sign in figures]):
        return False
    return figures[0] != "0" or part == "0"


def value_read(text, line):
    """The value whose writing a line is."""
    source = Writing(text, line)
    # The tuples that are begun, each a list of what stands in it up to here, behind a list for the value itself.
    begun = [[]]
    while begun[0] == []:
        if not source.passes("("):
            begun[-1].append(source.simple())
        else:
            begun.append([])
            if not source.comes(")"):
                continue
        while len(begun) > 1 and source.passes(")"):
            own = tuple(begun.pop())
            begun[-1].append(own)
        if len(begun) > 1 and not source.passes(" "):
            source.refuse()
    if source.at < len(text):
        source.refuse()
    return begun[0][0]
