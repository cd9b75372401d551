"""What tests of PROGRAMS share: PROGRAMS told by short texts, calls whose errors are told, lists for tuples."""

from gathermill.codes import program_read
from tests.examples_of_document import ERRORS, told_error


def made(*codes):
    """The PROGRAM of codes as "names slots cells: instruction; instruction", without places."""
    lines = []
    for number, code in enumerate(codes):
        head, _, body = code.partition(":")
        names, slots, cells = head.split()
        lines.append(f"code {number} names {names} slots {slots} cells {cells}")
        lines.extend(f"{place} {own}" for place, own in enumerate(body.split(";")))
    return program_read("\n".join(lines))


def main(body, slots=0):
    """The PROGRAM of one CODE with these INSTRUCTIONS."""
    return made(f"0 {slots} 0: {body}")


def lists_of(value):
    """The value with lists for tuples, at any depth."""
    return [lists_of(own) for own in value] if isinstance(value, (tuple, list)) else value


def told(function, *arguments, **named):
    """What a function returns, or the error of the package that it raises."""
    try:
        return function(*arguments, **named)
    except tuple(ERRORS.values()) as raised:
        return told_error(raised)


def raised(error, /, **fields):
    """What told tells for an error of this name."""
    return (ERRORS[error], fields)


def nested(depth):
    """A tuple in a tuple and so on."""
    value = ()
    for _ in range(depth - 1):
        value = (value,)
    return value


STRANGE = (
    None, True, False, 0, 1, -1, 10 ** 30, "", "a", "code", "pop", (), [], (1,), ("pop",), ["pop"], ("pop", 1), (None,),
    (("pop",),), [("pop",)], ("a",) * 1000, nested(100), [nested(99)], ((), ((), ())), (0, 0, 0, ()), 10 ** 5000,
)
