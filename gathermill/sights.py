"""Sights: what MILLS mean, and where two of them part."""

from gathermill.memory import objects_in
from gathermill.seeing import seen_in, sight_of
from gathermill.tuples import frozen, is_same
from gathermill.values import is_count


def sight(mill):
    """The SIGHT of a MILL."""
    return sight_of(frozen(mill))


def same_sight(mill, other):
    """Whether two MILLS have one SIGHT."""
    return is_same(sight(mill), sight(other))


def parting(mill, other):
    """The parting of the SIGHTS of two MILLS."""
    one = sight(mill)
    other = sight(other)
    if is_same(one, other):
        return None
    path = []
    while are_long_alike(one, other):
        at = first_unlike(one, other)
        path.append(at)
        one = one[at]
        other = other[at]
    return tuple(path)


def are_long_alike(one, other):
    """Whether both are tuples of one length."""
    return isinstance(one, tuple) and isinstance(other, tuple) and len(one) == len(other)


def first_unlike(one, other):
    """The first place at which two tuples, which are not one, have parts that are not one."""
    at = 0
    while is_same(one[at], other[at]):
        at += 1
    return at


def is_parting(mill, other, thing):
    """Whether thing is a tuple of places that leads to parts at which the SIGHTS of two MILLS part."""
    if not isinstance(thing, tuple):
        return False
    one = sight(mill)
    other = sight(other)
    for place in thing:
        if not are_long_alike(one, other) or not is_count(place) or place >= len(one):
            return False
        one = one[place]
        other = other[place]
    return not are_long_alike(one, other) and not is_same(one, other)


def seen_at(mill):
    """The tuple of the addresses of the OBJECTS of the SIGHT of a MILL."""
    return tuple(seen_in(frozen(mill)).order)


def unseen(mill):
    """The set of the addresses of those OBJECTS of the memory that the SIGHT of a MILL does not have."""
    mill = frozen(mill)
    numbers = seen_in(mill).numbers
    return tuple([address for address in objects_in(mill[1]) if address not in numbers])
