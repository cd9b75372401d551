"""Images: MILLS written out, and read in again."""

from gathermill.errors import BadText, Unfit
from gathermill.mill import is_mill
from gathermill.plain_writing import value_read, writing
from gathermill.tuples import frozen

FIRST = "mill 1"
LAST = "close"


def image_of(mill):
    """The image of a MILL."""
    frames, memory, shown, end = frozen(mill)
    ahead = "\n".join([FIRST, writing(frames), writing(memory), writing(shown), writing(end), ""])
    return f"{ahead}{signs_line(len(ahead))}\n{LAST}"


def signs_line(many):
    """The line that tells how many signs stand ahead of it."""
    return f"signs {many}"


def mill_read(text):
    """The MILL with this image."""
    rows = text.split("\n")
    want_line(rows, 1, FIRST)
    values = []
    for line in (2, 3, 4, 5):
        want_line(rows, line, None)
        values.append(value_read(rows[line - 1], line))
    want_line(rows, 6, signs_line(sum([len(row) + 1 for row in rows[:5]])))
    want_line(rows, 7, LAST)
    if len(rows) > 7:
        raise BadText(8)
    mill = tuple(values)
    if not is_mill(mill):
        raise Unfit()
    return mill


def want_line(rows, line, wanted):
    """A line must be there, and be as wanted if this is not None."""
    if line > len(rows) or (wanted is not None and rows[line - 1] != wanted):
        raise BadText(line)
