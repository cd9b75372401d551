"""Whether something is a MEMORY."""

from gathermill.layout import first_of_half, heads_laid, is_moved, many_in, old_laid
from gathermill.values import is_count, is_reference, is_tuple_of


def has_parts(thing):
    """Whether thing has the parts of a MEMORY, each of the right kind and size, whatever the words are."""
    if not isinstance(thing, tuple) or len(thing) != 9:
        return False
    room, nursery, words, young, half, free, scan, left, remembered = thing
    if not all([is_count(own) for own in (room, nursery, young, half, free, left)]) or nursery < 4:
        return False
    if not isinstance(words, tuple) or len(words) != nursery + 2 * room or young > nursery or half > 1:
        return False
    first = first_of_half(room, nursery, half)
    if not first <= free <= first + room or not is_tuple_of(is_count, remembered):
        return False
    return scan is None or (is_count(scan) and first <= scan <= free)


def is_sound_memory(thing):
    """Whether thing is a MEMORY."""
    if not has_parts(thing):
        return False
    room, nursery, words, young, half, free, scan, left, remembered = thing
    first = first_of_half(room, nursery, half)
    there = first_of_half(room, nursery, 1 - half)
    in_nursery = heads_laid(words, 0, young, nursery)
    here = heads_laid(words, first, free, first + room)
    if in_nursery is None or here is None:
        return False
    old = old_laid(words, there, there + room, here)
    if old is None or (scan is None and old):
        return False
    unmoved = {address: head for address, head in old.items() if not is_moved(head)}
    if left != sum([1 + many_in(head) for head in list(unmoved.values())]) or young + free - first + left > room:
        return False
    if not has_unlike_places(old):
        return False
    if list(remembered) != [address for address in range(first, free) if is_below(words[address], nursery)]:
        return False
    near = {**in_nursery, **here}
    looked_at = free if scan is None else scan
    return (
        all_lead(words, list(range(young)) + list(range(first, looked_at)), near)
        and all_lead(words, list(range(looked_at, free)), {**near, **old})
        and all_lead(words, places_in(unmoved), old)
    )


def has_unlike_places(old):
    """Whether no two OBJECTS are moved to one address."""
    places = [head[1] for head in list(old.values()) if is_moved(head)]
    return len(set(places)) == len(places)


def is_below(word, nursery):
    """Whether a word is a REFERENCE into the nursery."""
    return is_reference(word) and word[1] < nursery


def places_in(heads):
    """The list of the addresses of all VALUES of OBJECTS, by a dict of their HEADERS."""
    return [at for address, head in heads.items() for at in range(address + 1, address + 1 + many_in(head))]


def all_lead(words, addresses, heads):
    """Whether all REFERENCES that stand at these addresses lead to one in a dict of HEADERS."""
    return all([words[at][1] in heads for at in addresses if is_reference(words[at])])
