"""SHEETS: what INSTRUCTIONS lack by them, and the ways on from place to place.

A way on is a quadruple (place, how, height, guards): where it leads, "on" or "lack", and what it brings there. What
kinds it brings is told apart from it, since kinds do not change where ways lead.
"""

from gathermill.codes import effect_of, next_places
from gathermill.instructions import TELLING, cells_told, closes_wrong, slots_told, takes_of
from gathermill.values import is_count, is_tuple_of

KINDS = ("plain", "cell", "none")
CAN_LACK = (
    "box", "close", "array", "many", "one", "two", "item", "setitem", "length", "unless", "sure", "call", "fail",
)


def is_kind(thing):
    """Whether thing is what a SHEET may have for a slot."""
    return isinstance(thing, str) and thing in KINDS


def is_guard(thing):
    """Whether thing is a GUARD."""
    return isinstance(thing, tuple) and len(thing) == 2 and is_count(thing[0]) and is_count(thing[1])


def is_sheet(thing, slots):
    """Whether thing is a SHEET of a CODE with so many slots."""
    if not isinstance(thing, tuple) or len(thing) != 3:
        return False
    kinds, height, guards = thing
    return is_tuple_of(is_kind, kinds) and len(kinds) == slots and is_count(height) and is_tuple_of(is_guard, guards)


def first_kinds(code):
    """The kinds with which a CODE begins."""
    names, slots, _, _ = code
    return ("plain",) * names + ("none",) * (slots - names)


def first_sheet(code):
    """The SHEET with which a CODE begins."""
    return (first_kinds(code), 0, ())


def lacks_kind(instruction, kinds):
    """Whether an INSTRUCTION lacks a kind."""
    word = instruction[0]
    if word in ("load", "box"):
        return kinds[instruction[1]] != "plain"
    if word in ("open", "fill"):
        return kinds[instruction[1]] != "cell"
    return any([how == "slot" and kinds[number] != "cell" for how, number in takes_of(instruction)])


def lacks_other(program, code, place, height, guards):
    """Whether the INSTRUCTION at a place of a CODE lacks something that is no kind."""
    instruction = program[code][3][place]
    if leads_out(program[code], instruction, place) or tells_none(program, code, instruction):
        return True
    if misfits(code, instruction, guards):
        return True
    left = height - effect_of(instruction)[0]
    return left < 0 or (guards != () and left < guards[-1][1])


def lacks(program, code, place, sheet):
    """Whether the INSTRUCTION at a place of a CODE lacks something by a SHEET."""
    kinds, height, guards = sheet
    if lacks_other(program, code, place, height, guards):
        return True
    return lacks_kind(program[code][3][place], kinds)


def leads_out(code, instruction, place):
    """Whether a place that an INSTRUCTION tells, or the next one if it goes on there, is none of its CODE."""
    told = [instruction[1]] if instruction[0] in TELLING else []
    return any([other >= len(code[3]) for other in [*told, *next_places(instruction, place)]])


def tells_none(program, code, instruction):
    """Whether a slot, a CELL or a CODE that an INSTRUCTION tells is not there, or not such that a close can tell it."""
    _, slots, cells, _ = program[code]
    if any([slot >= slots for slot in slots_told(instruction)]):
        return True
    if any([cell >= cells for cell in cells_told(instruction)]):
        return True
    return closes_wrong(program, instruction) or (instruction[0] == "close" and instruction[1] == 0)


def misfits(code, instruction, guards):
    """Whether an INSTRUCTION does not fit to the CODE in which it stands, or to the GUARDS."""
    word = instruction[0]
    if word == "return":
        return code == 0
    if word == "halt":
        return code != 0
    return word == "unguard" and guards == ()


def kinds_behind(instruction, kinds):
    """The kinds behind an INSTRUCTION if nothing fails."""
    if instruction[0] not in ("store", "box"):
        return kinds
    slot = instruction[1]
    kind = "plain" if instruction[0] == "store" else "cell"
    return (*kinds[:slot], kind, *kinds[slot + 1:])


def kinds_by(instruction, kinds, how):
    """The kinds that a way on from an INSTRUCTION brings."""
    return kinds if how == "lack" else kinds_behind(instruction, kinds)


def guards_behind(instruction, height, guards):
    """The GUARDS behind an INSTRUCTION if nothing fails."""
    if instruction[0] == "guard":
        return (*guards, (instruction[1], height))
    return guards[:-1] if instruction[0] == "unguard" else guards


def ways_on(instruction, place, height, guards):
    """The list of the ways on from an INSTRUCTION, ascending."""
    off, on = effect_of(instruction)
    behind = guards_behind(instruction, height, guards)
    ways = [(other, "on", height - off + on, behind) for other in next_places(instruction, place)]
    if guards != () and instruction[0] in CAN_LACK:
        ways.append((guards[-1][0], "lack", guards[-1][1] + 1, guards[:-1]))
    return sorted(ways)


def sheets_on(instruction, place, sheet):
    """The list of the triples (place, how, SHEET) to which an INSTRUCTION leads from a SHEET."""
    kinds, height, guards = sheet
    return [
        (other, how, (kinds_by(instruction, kinds, how), higher, more))
        for other, how, higher, more in ways_on(instruction, place, height, guards)
    ]
