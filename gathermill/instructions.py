"""The forms of INSTRUCTIONS: for each word the kinds of the fields behind it, and what they tell of a CODE.

A field is of the kind "constant", "from zero" (a number from 0: a slot, a CELL, a CODE, a place, or how many), "takes",
"one" or "two" (an operation on as many VALUES).
"""

from gathermill.forms import ONE, TWO
from gathermill.values import is_constant, is_count, is_tuple_of

FIELDS = {
    "constant": ("constant",),
    "load": ("from zero",),
    "store": ("from zero",),
    "box": ("from zero",),
    "open": ("from zero",),
    "fill": ("from zero",),
    "up": ("from zero",),
    "upfill": ("from zero",),
    "close": ("from zero", "takes"),
    "call": ("from zero",),
    "return": (),
    "pop": (),
    "jump": ("from zero",),
    "unless": ("from zero",),
    "sure": (),
    "one": ("one",),
    "two": ("two",),
    "array": ("from zero",),
    "many": (),
    "item": (),
    "setitem": (),
    "length": (),
    "show": (),
    "fail": (),
    "guard": ("from zero",),
    "unguard": (),
    "halt": (),
}
TAKES = ("slot", "up")
TELLING = ("jump", "unless", "guard")


def is_take(thing):
    """Whether thing is one of the takes of a close."""
    if not isinstance(thing, tuple) or len(thing) != 2 or not isinstance(thing[0], str):
        return False
    return thing[0] in TAKES and is_count(thing[1])


def is_field(kind, thing):
    """Whether thing is a field of this kind."""
    if kind == "from zero":
        return is_count(thing)
    if kind == "constant":
        return is_constant(thing)
    if kind == "takes":
        return is_tuple_of(is_take, thing)
    return isinstance(thing, str) and thing in (ONE if kind == "one" else TWO)


def takes_of(instruction):
    """The takes of an INSTRUCTION: () if it is no close."""
    return instruction[2] if instruction[0] == "close" else ()


def slots_told(instruction):
    """The list of the slots that an INSTRUCTION tells."""
    if instruction[0] in ("load", "store", "box", "open", "fill"):
        return [instruction[1]]
    return [number for how, number in takes_of(instruction) if how == "slot"]


def cells_told(instruction):
    """The list of the CELLS of the own FUNCTION that an INSTRUCTION tells."""
    if instruction[0] in ("up", "upfill"):
        return [instruction[1]]
    return [number for how, number in takes_of(instruction) if how == "up"]


def places_told(instructions):
    """A dict of the places that some of these INSTRUCTIONS tell."""
    return {instruction[1]: True for instruction in instructions if instruction[0] in TELLING}


def closes_wrong(program, instruction):
    """Whether a close tells a CODE that is not there, or has not as many takes as this has CELLS."""
    if instruction[0] != "close":
        return False
    return instruction[1] >= len(program) or len(instruction[2]) != program[instruction[1]][2]
