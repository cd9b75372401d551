"""Faults: why an INSTRUCTION can not be done at all."""

from gathermill.codes import effect_of
from gathermill.instructions import cells_told, closes_wrong, slots_told
from gathermill.objects import leads


def is_faulty(run, instruction):
    """Whether the running FRAME can not do an INSTRUCTION, be it that this lacks something or not."""
    _, _, slots, stack, function, guards = run.frames[-1]
    word = instruction[0]
    if len(stack) < effect_of(instruction)[0]:
        return True
    if word == "return":
        return len(run.frames) == 1
    if word == "unguard":
        return guards == ()
    if word in ("up", "upfill"):
        return not has_cells(run, function, instruction)
    if word == "close" and (closes_wrong(run.program, instruction) or not has_cells(run, function, instruction)):
        return True
    return not fits_slots(run, slots, instruction)


def has_cells(run, function, instruction):
    """Whether a FUNCTION, None for the main one, has the CELLS that an INSTRUCTION tells."""
    told = cells_told(instruction)
    if not told:
        return True
    return function is not None and max(told) < run.heap.head(function)[-1]


def fits_slots(run, slots, instruction):
    """Whether the slots that an INSTRUCTION tells are there and have in them what it asks for."""
    word = instruction[0]
    for slot in slots_told(instruction):
        if slot >= len(slots):
            return False
        if word in ("load", "box") and (slots[slot] == () or leads_to_cell(run, slots[slot])):
            return False
        if word in ("open", "fill", "close") and not leads_to_cell(run, slots[slot]):
            return False
    return True


def leads_to_cell(run, value):
    """Whether what stands in a slot is a REFERENCE to a CELL."""
    return leads(value) and run.heap.head(value)[0] == "cell"
