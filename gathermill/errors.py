"""The errors that the functions of the package raise."""


class NoPlace(LookupError):
    """There is no such place."""

    def __init__(self, place):
        LookupError.__init__(self, place)
        self.place = place


class NoName(LookupError):
    """No variable of this NAME is there."""

    def __init__(self, name):
        LookupError.__init__(self, name)
        self.name = name


class BadText(ValueError):
    """This line of a text can not stand where it stands."""

    def __init__(self, line):
        ValueError.__init__(self, line)
        self.line = line


class Twice(ValueError):
    """A NAME is let where it is taken."""

    def __init__(self, name):
        ValueError.__init__(self, name)
        self.name = name


class Misplaced(ValueError):
    """A break or a return stands where there is nothing to leave."""

    def __init__(self, word):
        ValueError.__init__(self, word)
        self.word = word


class Refused(ValueError):
    """The checker does not take a PROGRAM."""

    def __init__(self, code, place):
        ValueError.__init__(self, code, place)
        self.code = code
        self.place = place


class Fault(ValueError):
    """An INSTRUCTION can not be done at all."""

    def __init__(self, code, place):
        ValueError.__init__(self, code, place)
        self.code = code
        self.place = place


class CanNot(ValueError):
    """What is asked for can not be done."""


class Unfit(ValueError):
    """An argument does not fit."""
