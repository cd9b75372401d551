"""What stands in the words of a memory, and how OBJECTS lie side by side there."""

from gathermill.values import is_count, is_reference, is_value

FREE = ("free",)


def first_of_half(room, nursery, half):
    """The first address of a half."""
    return nursery + half * room


def is_header(thing):
    """Whether thing is a HEADER."""
    if not isinstance(thing, tuple) or not thing or not isinstance(thing[0], str):
        return False
    if thing[0] == "cell":
        return len(thing) == 1
    if thing[0] == "array":
        return len(thing) == 2 and is_count(thing[1])
    return thing[0] == "function" and len(thing) == 3 and is_count(thing[1]) and is_count(thing[2])


def is_moved(thing):
    """Whether thing tells that an OBJECT is moved."""
    return isinstance(thing, tuple) and len(thing) == 2 and thing[0] == "moved" and is_count(thing[1])


def many_in(header):
    """How many VALUES an OBJECT with this HEADER has."""
    return 1 if header[0] == "cell" else header[-1]


def are_members(header, words):
    """Whether these words are what an OBJECT with this HEADER may have behind it."""
    is_right = is_reference if header[0] == "function" else is_value
    return all([is_right(word) for word in words])


def is_all_free(words):
    """Whether these words are all free."""
    return all([word == FREE for word in words])


def heads_laid(words, begin, end, last):
    """A dict of the HEADERS of the OBJECTS that lie side by side from begin to end, all words behind up to last free.

    None if none lie so.
    """
    heads = {}
    at = begin
    while at < end:
        if not is_header(words[at]) or at + 1 + many_in(words[at]) > end:
            return None
        behind = at + 1 + many_in(words[at])
        if not are_members(words[at], words[at + 1:behind]):
            return None
        heads[at] = words[at]
        at = behind
    return heads if is_all_free(words[end:last]) else None


def old_laid(words, begin, end, here):
    """A dict of the HEADERS of the OBJECTS that lie side by side from begin on, all words behind them up to end free.

    For a moved one it has ("moved", address), address that of one in here, a dict of HEADERS. None if none lie so.
    """
    old = {}
    at = begin
    while at < end and words[at] != FREE:
        header = words[at]
        if is_moved(header):
            header = here.get(header[1])
        if not is_header(header) or at + 1 + many_in(header) > end:
            return None
        behind = at + 1 + many_in(header)
        if not are_members(header, words[at + 1:behind]):
            return None
        old[at] = words[at]
        at = behind
    return old if is_all_free(words[at:end]) else None
