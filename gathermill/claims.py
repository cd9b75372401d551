"""CLAIMS: their forms, and what is looked at for their PAPERS."""

from gathermill.checker import is_taken
from gathermill.codes import is_program
from gathermill.instructions import slots_told
from gathermill.mill import is_mill
from gathermill.mill_forms import ends_well, is_last_end, is_quadruple, is_string
from gathermill.objects import held_by, leads, members_of
from gathermill.values import is_count, is_object, is_tuple_of


def is_taken_program(thing):
    """Whether thing is a PROGRAM that the checker takes."""
    return is_program(thing) and is_taken(tuple([with_told_slots(code) for code in thing]))


def with_told_slots(code):
    """A CODE of whose slots those are left that are told: the checker asks for no others, however many there are."""
    names, slots, cells, instructions = code
    told = 1 + max([slot for own in instructions for slot in slots_told(own)], default=-1)
    return (min(names, told), min(slots, told), cells, instructions)


def is_state(thing):
    """Whether thing is a STATE by its form."""
    if not is_quadruple(thing) or not is_tuple_of(is_object, thing[1]) or not ends_well(thing[0], thing[3]):
        return False
    frames, objects, _, _ = thing
    members = held_by(frames)
    for item in objects:
        members.extend(members_of(item))
    return all([number < len(objects) for number in numbers_led(members)])


def numbers_led(members):
    """The list of the numbers of the OBJECTS to which some VALUES of a STATE lead."""
    return [value[1] for value in members if leads(value)]


def numbers_of_frames(state):
    """The list of the numbers of the OBJECTS to which the FRAMES of a STATE have REFERENCES."""
    return numbers_led(held_by(state[0]))


def numbers_of_object(state, number):
    """The list of the numbers of the OBJECTS to which an OBJECT of a STATE has REFERENCES."""
    return numbers_led(members_of(state[1][number]))


def is_limits(thing):
    """Whether thing are LIMITS."""
    if not is_tuple_of(is_count, thing) or len(thing) != 3:
        return False
    return thing[1] >= 4 and thing[2] >= 1


def is_outcome(thing):
    """Whether thing is an OUTCOME by its form."""
    if not isinstance(thing, tuple) or len(thing) != 2 or not is_tuple_of(is_string, thing[0]):
        return False
    return is_last_end(thing[1]) or is_going(thing[1])


def is_going(thing):
    """Whether thing is the end of an OUTCOME of a run that goes on."""
    return thing == ("going",)


def is_taken_claim(fields):
    """Whether these are the fields of a CLAIM that a PROGRAM is taken."""
    return len(fields) == 1 and is_program(fields[0])


def is_live_claim(fields):
    """Whether these are the fields of a CLAIM that an OBJECT is live."""
    if len(fields) != 2 or not is_state(fields[0]):
        return False
    return is_count(fields[1]) and fields[1] < len(fields[0][1])


def is_same_claim(fields):
    """Whether these are the fields of a CLAIM that two MILLS have one SIGHT."""
    return len(fields) == 2 and is_mill(fields[0]) and is_mill(fields[1])


def is_short_claim(fields):
    """Whether these are the fields of a CLAIM that a PROGRAM has no trim."""
    return len(fields) == 1 and is_taken_program(fields[0])


def is_fits_claim(fields):
    """Whether these are the fields of a CLAIM that a free run needs no more room."""
    if len(fields) != 4 or not is_tuple_of(is_count, fields[1:]):
        return False
    return fields[1] >= 1 and is_taken_program(fields[0])


def is_ends_claim(fields):
    """Whether these are the fields of a CLAIM that a plain run has an OUTCOME."""
    if len(fields) != 4 or not is_limits(fields[1]) or not is_count(fields[2]):
        return False
    return is_outcome(fields[3]) and is_taken_program(fields[0])


FORMS = {
    "taken": is_taken_claim,
    "live": is_live_claim,
    "same": is_same_claim,
    "short": is_short_claim,
    "fits": is_fits_claim,
    "ends": is_ends_claim,
}


def is_claim_in_form(thing):
    """Whether thing is a CLAIM."""
    if not isinstance(thing, tuple) or not thing or not isinstance(thing[0], str) or thing[0] not in FORMS:
        return False
    has_fields = FORMS[thing[0]]
    return has_fields(thing[1:])
