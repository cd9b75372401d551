"""PAPERS for CLAIMS and against them; for each word a function that makes one, and one for each side that knows one.

What makes a PAPER tells the pair of whether the CLAIM is so, and the PAPER for it or against it. claim is a CLAIM made
of tuples.
"""

from gathermill.checker import bar, is_bar, is_table, is_taken, table_of
from gathermill.claims import numbers_of_frames, numbers_of_object
from gathermill.machine import live, run_plain
from gathermill.rooms import first_refused
from gathermill.sights import is_parting, parting
from gathermill.soundness import is_set_within
from gathermill.trimming import trims
from gathermill.tuples import is_same
from gathermill.values import is_count


def taken_paper(claim):
    """A TABLE, or a BAR."""
    return (True, table_of(claim[1])) if is_taken(claim[1]) else (False, bar(claim[1]))


def live_paper(claim):
    """A way from a FRAME to an OBJECT, or all that is live."""
    _, state, number = claim
    before = {}
    waiting = []
    come_from(None, numbers_of_frames(state), before, waiting)
    while waiting and number not in before:
        own = waiting.pop()
        come_from(own, numbers_of_object(state, own), before, waiting)
    if number not in before:
        return (False, live(state))
    way = []
    while number is not None:
        way.append(number)
        number = before[number]
    return (True, tuple(way[::-1]))


def come_from(own, numbers, before, waiting):
    """Notes that these OBJECTS are come to from an own one, None for FRAMES, if they were not come to yet."""
    for number in numbers:
        if number not in before:
            before[number] = own
            waiting.append(number)


def same_paper(claim):
    """Nothing, or a parting."""
    return empty_or(parting(claim[1], claim[2]))


def short_paper(claim):
    """Nothing, or a trim."""
    found = trims(claim[1])
    return empty_or(found[0] if found else None)


def fits_paper(claim):
    """Nothing, or the number of the first INSTRUCTION that is refused."""
    _, program, deep, most, room = claim
    return empty_or(first_refused(program, room, deep, most))


def ends_paper(claim):
    """Nothing, or the OUTCOME that it is."""
    _, program, limits, most, outcome = claim
    own = run_plain(program, limits, most)
    return empty_or(None if is_same(own, outcome) else own)


def empty_or(against):
    """The PAPER against a CLAIM, or () for it if there is none."""
    return (True, ()) if against is None else (False, against)


def is_taken_for(claim, thing):
    """Whether thing is a TABLE."""
    return is_table(claim[1], thing)


def is_taken_against(claim, thing):
    """Whether thing is a BAR."""
    return is_bar(claim[1], thing)


def is_live_for(claim, thing):
    """Whether thing is a way from a FRAME to the OBJECT."""
    _, state, number = claim
    if not isinstance(thing, tuple) or not thing:
        return False
    if not all([is_count(own) and own < len(state[1]) for own in thing]) or thing[-1] != number:
        return False
    if thing[0] not in numbers_of_frames(state):
        return False
    return all([other in numbers_of_object(state, own) for own, other in zip(thing, thing[1:])])


def is_live_against(claim, thing):
    """Whether thing is a set of OBJECTS, not this one, to which FRAMES and these OBJECTS themselves lead alone."""
    _, state, number = claim
    if not is_set_within(thing, 0, len(state[1])):
        return False
    known = {own: True for own in thing}
    led = numbers_of_frames(state)
    for own in thing:
        led.extend(numbers_of_object(state, own))
    return number not in known and all([own in known for own in led])


def is_empty_for(claim, thing):
    """Whether thing is (), and the CLAIM is so."""
    return isinstance(thing, tuple) and len(thing) == 0 and paper_of(claim)[0]


def is_same_against(claim, thing):
    """Whether thing tells where SIGHTS part."""
    return is_parting(claim[1], claim[2], thing)


def is_other_against(claim, thing):
    """Whether the CLAIM is not so, and thing is the one PAPER against it."""
    so, against = paper_of(claim)
    return not so and is_same(thing, against)


def is_short_against(claim, thing):
    """Whether thing is a trim."""
    return any([is_same(thing, trim) for trim in trims(claim[1])])


MAKERS = {
    "taken": taken_paper,
    "live": live_paper,
    "same": same_paper,
    "short": short_paper,
    "fits": fits_paper,
    "ends": ends_paper,
}
KNOWERS_FOR = {
    "taken": is_taken_for,
    "live": is_live_for,
    "same": is_empty_for,
    "short": is_empty_for,
    "fits": is_empty_for,
    "ends": is_empty_for,
}
KNOWERS_AGAINST = {
    "taken": is_taken_against,
    "live": is_live_against,
    "same": is_same_against,
    "short": is_short_against,
    "fits": is_other_against,
    "ends": is_other_against,
}


def paper_of(claim):
    """The pair of whether a CLAIM is so, and a PAPER for it or against it."""
    make = MAKERS[claim[0]]
    return make(claim)


def is_for(claim, thing):
    """Whether thing is a PAPER for a CLAIM."""
    know = KNOWERS_FOR[claim[0]]
    return know(claim, thing)


def is_against(claim, thing):
    """Whether thing is a PAPER against a CLAIM."""
    know = KNOWERS_AGAINST[claim[0]]
    return know(claim, thing)
