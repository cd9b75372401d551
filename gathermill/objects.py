"""VALUES that lead to OBJECTS, and the VALUES in these."""


def leads(value):
    """Whether a VALUE, or what stands in a slot, is a REFERENCE."""
    return isinstance(value, tuple) and value != ()


def members_of(item):
    """The tuple of the VALUES in an OBJECT."""
    return (item[1],) if item[0] == "cell" else item[-1]


def with_members(item, members):
    """An OBJECT with others, as many, in the place of the VALUES in item, which may be a HEADER."""
    return ("cell", members[0]) if item[0] == "cell" else (*item[:-1], members)


def leads_to_cell(objects, value):
    """Whether a VALUE, or what stands in a slot, is a REFERENCE to a CELL among these OBJECTS."""
    return leads(value) and objects[value[1]][0] == "cell"


def header_of(item):
    """The HEADER that an OBJECT has in a memory."""
    if item[0] == "cell":
        return ("cell",)
    return (*item[:-1], len(item[-1]))


def held_by(frames):
    """The list of all that FRAMES hold, the main one first: slots, stack, FUNCTION."""
    held = []
    for _, _, slots, stack, function, _ in frames:
        held.extend(slots)
        held.extend(stack)
        held.append(function)
    return held


def with_held(frames, held):
    """The list of FRAMES that hold others, as many, in their order."""
    built = []
    at = 0
    for code, place, slots, stack, _, guards in frames:
        middle = at + len(slots)
        end = middle + len(stack)
        built.append((code, place, tuple(held[at:middle]), tuple(held[middle:end]), held[end], guards))
        at = end + 1
    return built


def with_numbers(members, numbers):
    """The tuple of what stands in a FRAME or an OBJECT, with other numbers in REFERENCES."""
    return tuple([("@", numbers[value[1]]) if leads(value) else value for value in members])


def renumbered(item, numbers):
    """An OBJECT with other numbers in its REFERENCES."""
    return with_members(item, with_numbers(members_of(item), numbers))


def renumbered_frames(frames, numbers):
    """The tuple of FRAMES with other numbers in their REFERENCES."""
    return tuple(with_held(frames, with_numbers(held_by(frames), numbers)))


def come_to(frames, objects):
    """A dict of the live OBJECTS: from their numbers, in the order in which they are first come to, to new ones."""
    order = []
    found = {}
    come_to_led(held_by(frames), order, found)
    at = 0
    while at < len(order):
        come_to_led(members_of(objects[order[at]]), order, found)
        at += 1
    return found


def come_to_led(members, order, found):
    """Puts the numbers of OBJECTS to which some VALUES lead behind an order, if they are not found yet."""
    for value in members:
        if leads(value) and value[1] not in found:
            found[value[1]] = len(order)
            order.append(value[1])
