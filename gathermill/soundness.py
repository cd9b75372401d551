"""What always holds in a MEMORY, and whether something is one."""

from gathermill.layout import first_of_half, heads_laid, is_moved, many_in, old_laid
from gathermill.values import is_count, is_reference, is_tuple_of


def has_parts(thing):
    """Whether thing has the parts of a MEMORY, each of the right kind and size, whatever the words are."""
    if not isinstance(thing, tuple) or len(thing) != 9:
        return False
    room, nursery, words, young, half, free, scan, left, remembered = thing
    if not all([is_count(own) for own in (room, nursery, young, half, free, left)]) or nursery < 4:
        return False
    if not isinstance(words, tuple) or len(words) != nursery + 2 * room or young > nursery or half > 1 or left > room:
        return False
    first = first_of_half(room, nursery, half)
    if not first <= free <= first + room or not is_set_within(remembered, first, free):
        return False
    return scan is None or (is_count(scan) and first <= scan <= free)


def is_set_within(thing, first, end):
    """Whether thing is a set of numbers from first on, all below end."""
    if not is_tuple_of(is_count, thing) or not all([first <= own < end for own in thing]):
        return False
    return all([one < other for one, other in zip(thing, thing[1:])])


class Lay:
    """Where OBJECTS lie in a memory: dicts of HEADERS by addresses; old ones lie there, some of them moved."""

    def __init__(self, young, here, old):
        self.near = {**young, **here}
        self.old = old
        self.unmoved = {address: head for address, head in old.items() if not is_moved(head)}

    def head(self, address):
        """The HEADER of the OBJECT at an address, be it moved; None if there is none."""
        head = self.near.get(address, self.old.get(address))
        return self.near[head[1]] if is_moved(head) else head


def lay_of(memory):
    """The Lay of what has the parts of a MEMORY; None if OBJECTS do not lie side by side."""
    room, nursery, words, young, half, free, scan, _, _ = memory
    first = first_of_half(room, nursery, half)
    there = first_of_half(room, nursery, 1 - half)
    in_nursery = heads_laid(words, 0, young, nursery)
    here = heads_laid(words, first, free, first + room)
    if in_nursery is None or here is None:
        return None
    old = old_laid(words, there, there + room, here)
    if old is None or (scan is None and old):
        return None
    return Lay(in_nursery, here, old)


def broken_sentences(memory, held, lay):
    """The list of the names of the sentences that a memory breaks if FRAMES hold this and OBJECTS lie so."""
    room, nursery, words, young, half, free, _, left, remembered = memory
    first = first_of_half(room, nursery, half)
    broken = []
    if not is_led(memory, held, lay):
        broken.append("led")
    if list(remembered) != [address for address in range(first, free) if is_below(words[address], nursery)]:
        broken.append("kept")
    if not has_unlike_places(lay.old):
        broken.append("moved")
    if left != sum([1 + many_in(head) for head in list(lay.unmoved.values())]):
        broken.append("left")
    if young + free - first + left > room:
        broken.append("used")
    return broken


def is_led(memory, held, lay):
    """Whether all REFERENCES lead where they may."""
    room, nursery, words, young, half, free, scan, _, _ = memory
    first = first_of_half(room, nursery, half)
    looked_at = free if scan is None else scan
    return (
        all_lead(held, lay.near)
        and all_lead([*words[:young], *words[first:looked_at]], lay.near)
        and all_lead(words[looked_at:free], {**lay.near, **lay.old})
        and all_lead([words[at] for at in places_in(lay.unmoved)], lay.old)
    )


def has_unlike_places(old):
    """Whether no two OBJECTS are moved to one address."""
    places = [head[1] for head in list(old.values()) if is_moved(head)]
    return len(set(places)) == len(places)


def is_below(word, nursery):
    """Whether a word is a REFERENCE into the nursery."""
    return is_reference(word) and word[1] < nursery


def places_in(heads):
    """The list of the addresses of all VALUES of OBJECTS, by a dict of their HEADERS."""
    return [at for address, head in heads.items() for at in range(address + 1, address + 1 + many_in(head))]


def all_lead(members, heads):
    """Whether all REFERENCES among these lead to one in a dict of HEADERS."""
    return all([own[1] in heads for own in members if is_reference(own)])


def is_sound_for(memory, held):
    """Whether what has the parts of a MEMORY is one, and all REFERENCES that FRAMES hold lead into it."""
    lay = lay_of(memory)
    return lay is not None and not broken_sentences(memory, held, lay)


def is_sound_memory(thing):
    """Whether thing is a MEMORY."""
    return has_parts(thing) and is_sound_for(thing, ())
