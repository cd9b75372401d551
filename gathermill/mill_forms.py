"""The form of what MILLS and STATES have in common: FRAMES, what was shown, and the end."""

from gathermill.sheets import is_guard
from gathermill.values import is_count, is_reference, is_tuple_of, is_value


def is_slot(thing):
    """Whether thing is what may stand in a slot."""
    return is_value(thing) or (isinstance(thing, tuple) and len(thing) == 0)


def is_frame(thing):
    """Whether thing is a FRAME."""
    if not isinstance(thing, tuple) or len(thing) != 6:
        return False
    code, place, slots, stack, function, guards = thing
    if not is_count(code) or not is_count(place) or not is_tuple_of(is_slot, slots):
        return False
    if not is_tuple_of(is_value, stack) or not is_tuple_of(is_guard, guards):
        return False
    return function is None or is_reference(function)


def is_string(thing):
    """Whether thing is a string."""
    return isinstance(thing, str)


def is_last_end(thing):
    """Whether thing is an end behind which a run does not go on."""
    if not isinstance(thing, tuple):
        return False
    if len(thing) == 2:
        return thing[0] == "failed" and is_string(thing[1])
    return thing == ("done",)


def is_quadruple(thing):
    """Whether thing is a quadruple of FRAMES, anything, what was shown, and an end, None or another one."""
    if not isinstance(thing, tuple) or len(thing) != 4:
        return False
    frames, _, shown, end = thing
    if not is_tuple_of(is_frame, frames) or not is_tuple_of(is_string, shown):
        return False
    return end is None or is_last_end(end)


def ends_well(frames, end):
    """Whether there are FRAMES exactly as long as a run goes on."""
    return (frames == ()) == (end is not None)
