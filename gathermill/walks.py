"""Walks through the places of a CODE: in which order they are come to, how high the stack is there, what kinds hold."""

from gathermill.sheets import first_kinds, kinds_by, lacks_kind, lacks_other, ways_on


class Walk:
    """How far a walk is.

    order: the places in the order in which they are come to.
    shapes: a dict with the pair (height, guards) of each of these.
    before: a dict with the pair (place, how) of the way by which each of these was come to first, None for the first.
    bad: the place at which the walk ends because there is a BAR, else None.
    meeting: if two ways meet there that bring unlike shapes, the pair (place, how) of the second one, else None.
    """

    def __init__(self):
        self.order = []
        self.shapes = {}
        self.before = {}
        self.bad = None
        self.meeting = None

    def come_to(self, place, shape, before):
        """A place is come to for the first time."""
        self.order.append(place)
        self.shapes[place] = shape
        self.before[place] = before


def walk_of(program, code):
    """The Walk through a CODE, in which kinds are not looked at."""
    walk = Walk()
    walk.come_to(0, (0, ()), None)
    at = 0
    while at < len(walk.order) and walk.bad is None:
        go_on(walk, program, code, walk.order[at])
        at += 1
    return walk


def go_on(walk, program, code, place):
    """Goes the ways on from a place."""
    height, guards = walk.shapes[place]
    if lacks_other(program, code, place, height, guards):
        walk.bad = place
        return
    for other, how, higher, more in ways_on(program[code][3][place], place, height, guards):
        if other not in walk.shapes:
            walk.come_to(other, (higher, more), (place, how))
        elif walk.shapes[other] != (higher, more):
            walk.bad = other
            walk.meeting = (place, how)
            return


def kinds_of_walk(program, code, walk):
    """A dict with the kinds that all ways to a place bring, for each place of a Walk that found nothing bad."""
    instructions = program[code][3]
    found = {0: first_kinds(program[code])}
    waiting = [0]
    while waiting:
        place = waiting.pop()
        height, guards = walk.shapes[place]
        for other, how, _, _ in ways_on(instructions[place], place, height, guards):
            brought = kinds_by(instructions[place], found[place], how)
            both = common_kinds(found[other], brought) if other in found else brought
            if other not in found or both != found[other]:
                found[other] = both
                waiting.append(other)
    return found


def common_kinds(one, other):
    """The kinds that two ways bring both."""
    return tuple([kind if kind == own else "none" for kind, own in zip(one, other)])


def lacking_places(program, code, kinds):
    """The list of the places, ascending, at which a kind lacks by a dict of kinds."""
    instructions = program[code][3]
    return [place for place in sorted(kinds) if lacks_kind(instructions[place], kinds[place])]
