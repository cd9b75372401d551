"""The lines of the text of a PROGRAM: how they are written, and how they are read."""

from gathermill.errors import BadText
from gathermill.forms import ONE, TWO
from gathermill.instructions import FIELDS, TAKES
from gathermill.signs import FIGURES
from gathermill.values import is_number, is_word, kind_of

LONGEST_PART = 12


def constant_parts(constant):
    """The list of the parts by which a CONSTANT is told."""
    kind = kind_of(constant)
    if kind == "nothing":
        return [kind]
    if kind == "truth":
        return [kind, "true" if constant else "false"]
    return [kind, str(constant)]


def instruction_parts(instruction):
    """The list of the parts by which an INSTRUCTION is told."""
    parts = [instruction[0]]
    for kind, field in zip(FIELDS[instruction[0]], instruction[1:]):
        if kind == "constant":
            parts.extend(constant_parts(field))
        elif kind == "takes":
            for how, number in field:
                parts.extend([how, str(number)])
        else:
            parts.append(str(field))
    return parts


def head_parts(number, code):
    """The list of the parts of the first line of a CODE with this number."""
    names, slots, cells, _ = code
    return ["code", str(number), "names", str(names), "slots", str(slots), "cells", str(cells)]


class Line:
    """A line that is read: its parts, its number, and how many parts are passed."""

    def __init__(self, parts, number):
        self.parts = parts
        self.number = number
        self.at = 0

    def refuse(self):
        """This line can not stand here."""
        raise BadText(self.number)

    def has_more(self):
        """Whether some parts are not passed yet."""
        return self.at < len(self.parts)

    def part(self):
        """Passes a part and tells it."""
        if not self.has_more() or len(self.parts[self.at]) > LONGEST_PART:
            self.refuse()
        self.at += 1
        return self.parts[self.at - 1]

    def one_of(self, words):
        """Passes a part that is one of these words, and tells it."""
        part = self.part()
        if part not in words:
            self.refuse()
        return part

    def whole(self):
        """Passes a number and tells it."""
        part = self.part()
        digits = part[1:] if part[0] == "-" else part
        if digits == "" or not all([sign in FIGURES for sign in digits]):
            self.refuse()
        # A 0 ahead of other digits, and the number -0.
        if digits[0] == "0" and part != "0":
            self.refuse()
        return int(part)

    def from_zero(self):
        """Passes a number from 0 and tells it."""
        number = self.whole()
        if number < 0:
            self.refuse()
        return number


def head_read(line, number):
    """The triple (names, slots, cells) of the CODE with this number that begins with a line."""
    line.one_of(("code",))
    if line.from_zero() != number:
        line.refuse()
    told = []
    for word in ("names", "slots", "cells"):
        line.one_of((word,))
        told.append(line.from_zero())
    names, slots, cells = told
    if line.has_more() or slots < names or (number == 0 and (names > 0 or cells > 0)):
        line.refuse()
    return (names, slots, cells)


def instruction_read(line, place):
    """The INSTRUCTION that a line tells for this place."""
    if line.from_zero() != place:
        line.refuse()
    word = line.part()
    if word not in FIELDS:
        line.refuse()
    fields = [field_read(line, kind) for kind in FIELDS[word]]
    if line.has_more():
        line.refuse()
    return (word, *fields)


def field_read(line, kind):
    """Passes the parts of a field of this kind and tells it."""
    if kind == "from zero":
        return line.from_zero()
    if kind == "constant":
        return constant_read(line)
    if kind == "takes":
        return takes_read(line)
    return line.one_of(ONE if kind == "one" else TWO)


def constant_read(line):
    """Passes the parts of a CONSTANT and tells it."""
    kind = line.one_of(("number", "truth", "word", "nothing"))
    if kind == "nothing":
        return None
    if kind == "truth":
        return line.one_of(("true", "false")) == "true"
    constant = line.whole() if kind == "number" else line.part()
    if not is_number(constant) and not is_word(constant):
        line.refuse()
    return constant


def takes_read(line):
    """Passes all parts that are left as takes and tells these."""
    takes = []
    while line.has_more():
        how = line.one_of(TAKES)
        takes.append((how, line.from_zero()))
    return tuple(takes)
