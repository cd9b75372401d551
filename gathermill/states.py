"""Whether the SHEETS of a TABLE tell what is in a STATE."""

from gathermill.codes import effect_of
from gathermill.objects import leads, leads_to_cell, members_of


def holds_all(program, table, state):
    """Whether a TABLE tells what is in a STATE."""
    frames, objects, _, _ = state
    if not all([holds_object(program, objects, item) for item in objects]):
        return False
    for at, frame in enumerate(frames):
        if not has_right_function(objects, frame, at == 0):
            return False
        if not holds_frame(program, table, objects, frame, at + 1 == len(frames)):
            return False
    return True


def holds_object(program, objects, item):
    """Whether an OBJECT leads to CELLS where it should, and nowhere else."""
    led = [leads_to_cell(objects, value) for value in members_of(item)]
    if item[0] != "function":
        return not any(led)
    return 1 <= item[1] < len(program) and len(led) == program[item[1]][2] and all(led)


def has_right_function(objects, frame, is_first):
    """Whether the FUNCTION of a FRAME is one with its CODE, or None in the first FRAME, that of CODE 0."""
    code, function = frame[0], frame[4]
    if is_first:
        return code == 0 and function is None
    if not leads(function):
        return False
    item = objects[function[1]]
    return item[0] == "function" and item[1] == code


def holds_frame(program, table, objects, frame, is_last):
    """Whether the SHEET of its place tells a FRAME; that of the call ahead of it where it is not the last one."""
    code, place, slots, stack, _, guards = frame
    if not is_last:
        place -= 1
    if not 0 <= place < len(table[code]) or table[code][place] is None:
        return False
    kinds, height, known = table[code][place]
    instruction = program[code][3][place]
    if not is_last:
        if instruction[0] != "call":
            return False
        height -= effect_of(instruction)[0]
    if len(stack) != height or guards != known or any([leads_to_cell(objects, value) for value in stack]):
        return False
    return len(slots) == len(kinds) and all([has_kind(objects, own, kind) for own, kind in zip(slots, kinds)])


def has_kind(objects, own, kind):
    """Whether a slot with this in it is of a kind."""
    if kind == "none":
        return True
    if leads_to_cell(objects, own):
        return kind == "cell"
    return kind == "plain" and own != ()
