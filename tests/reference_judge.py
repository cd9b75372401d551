"""Rules of section 23 of the document written down once more: all CLAIMS that come of some, among a few that there may be."""

NURSERIES = (4, 5)


def is_one(one, other):
    """Whether two CLAIMS are one; repr tells truths from numbers."""
    return repr(one) == repr(other)


def members(item):
    return (item[1],) if item[0] == "cell" else item[-1]


def refers(value, number):
    return isinstance(value, tuple) and repr(value) == repr(("@", number))


def all_that_come(claims, rooms, mosts):
    """The dict (repr: CLAIM) of all that come of claims, rooms and numbers of INSTRUCTIONS being of these."""
    known = {repr(own): own for own in claims}
    grown = True
    while grown:
        more = {}
        for one in list(known.values()):
            for own in comes_of_one(one, rooms, mosts):
                more[repr(own)] = own
            for other in list(known.values()):
                for own in comes_of_two(one, other, rooms):
                    more[repr(own)] = own
        grown = not set(more) <= set(known)
        known.update(more)
    return known


def comes_of_one(one, rooms, mosts):
    if one[0] == "live":
        _, state, number = one
        for other in range(len(state[1])):
            if any(refers(value, other) for value in members(state[1][number])):
                yield ("live", state, other)
    elif one[0] == "same":
        yield ("same", one[2], one[1])
    elif one[0] == "fits":
        _, program, deep, most, room = one
        yield from (("fits", program, deep, own, room) for own in mosts if own < most)
        yield from (("fits", program, deep, most, own) for own in rooms if own > room)
    elif one[0] == "ends":
        _, program, (room, nursery, deep), most, outcome = one
        yield from (("ends", program, (room, own, deep), most, outcome) for own in NURSERIES)
        if outcome[1] != ("going",):
            yield from (("ends", program, (room, nursery, deep), own, outcome) for own in mosts if own > most)


def comes_of_two(one, other, rooms):
    if one[0] == other[0] == "same" and is_one(one[2], other[1]):
        yield ("same", one[1], other[2])
    if one[0] == "ends" and other[0] == "fits":
        _, program, (room, nursery, deep), most, outcome = one
        if is_one(other[1:4], (program, deep, most)) and other[4] <= room:
            yield from (("ends", program, (own, nursery, deep), most, outcome) for own in rooms if own >= other[4])
