"""Which CLAIMS come of others; claim and claims are made of tuples."""

from gathermill.claims import is_going, numbers_of_object
from gathermill.tuples import is_same


def comes_by_rules(claim, claims):
    """Whether a CLAIM comes of others."""
    if any([is_same(claim, own) for own in claims]):
        return True
    others = [own for own in claims if own[0] == claim[0]]
    if claim[0] == "live":
        return comes_live(claim, others)
    if claim[0] == "same":
        return comes_same(claim, others)
    if claim[0] == "fits":
        return any([fits_by(own, claim) for own in others])
    if claim[0] == "ends":
        fits = [own for own in claims if own[0] == "fits"]
        return any([ends_by(own, claim, fits) for own in others])
    return False


def comes_live(claim, others):
    """Whether an OBJECT is live because one that leads to it, over others, is."""
    _, state, number = claim
    waiting = [own[2] for own in others if is_same(own[1], state)]
    found = {own: True for own in waiting}
    while waiting:
        own = waiting.pop()
        for led in numbers_of_object(state, own):
            if led not in found:
                found[led] = True
                waiting.append(led)
    return number in found


def comes_same(claim, others):
    """Whether a row of others leads from the one MILL to the other, each read in either direction."""
    _, first, last = claim
    pairs = [(own[1], own[2]) for own in others] + [(own[2], own[1]) for own in others]
    waiting = [first]
    # The first one itself is come to only if some CLAIM leads to it, which then leads back from it.
    found = []
    while waiting:
        mill = waiting.pop()
        for one, other in pairs:
            if is_same(one, mill) and not is_among(other, found):
                found.append(other)
                waiting.append(other)
    return is_among(last, found)


def is_among(own, others):
    """Whether a value is one of some others."""
    return any([is_same(own, other) for other in others])


def fits_by(known, claim):
    """Whether a run fits because it does with as many INSTRUCTIONS or more, and as much room or less."""
    if not is_same(known[1], claim[1]) or known[2] != claim[2]:
        return False
    return known[3] >= claim[3] and known[4] <= claim[4]


def ends_by(known, claim, fits):
    """Whether a run ends so because another one does, which may fit into rooms."""
    _, program, limits, most, outcome = known
    if not is_same(program, claim[1]) or limits[2] != claim[2][2] or not is_same(outcome, claim[4]):
        return False
    if claim[3] != most and (claim[3] < most or is_going(outcome[1])):
        return False
    room = limits[0]
    wanted = claim[2][0]
    rooms = [own[4] for own in fits if fits_by(own, ("fits", program, limits[2], most, own[4]))]
    # From one room that is enough all others that are enough come, the least of them, too.
    return room == wanted or (any([own <= room for own in rooms]) and min(rooms) <= wanted)
