"""TREES made anew by what their NAMES mean: PLANS, and TREES with other NAMES."""

from gathermill.forms import inner_parts, with_inner_parts
from gathermill.trees import parts_of

READ_WORDS = ("load", "open", "up")
SET_WORDS = ("store", "fill", "upfill")


def backwards(tree):
    """The list of the pairs (place in text order, part) of a TREE, the last part first."""
    return list(enumerate(parts_of(tree)))[::-1]


def with_made(part, made):
    """A part with those in the place of the parts in it that stand at the end of the list made, and go off it.

    Where parts are made anew backwards the last ones that have no place yet lie in the next part, its first one at
    the end.
    """
    behind = len(made) - len(inner_parts(part))
    inner = made[behind:][::-1]
    del made[behind:]
    return with_inner_parts(part, inner)


def plan_by(scopes, tree):
    """The PLAN of a TREE with these Scopes."""
    slots = slots_of(scopes)
    blocks = {}
    made = []
    for index, part in backwards(tree):
        full = with_made(part, made)
        if part[0] == "function":
            blocks[scopes.tells[index]] = full[2]
        made.append(planned(scopes, slots, full, index))
    blocks[0] = tuple(made[::-1])
    return tuple([section(scopes, slots, code, blocks[code]) for code in range(len(scopes.outer))])


def renamed_by(scopes, tree, names):
    """The TREE with these Scopes, made anew with other NAMES for its VARIABLES."""
    made = []
    for index, part in backwards(tree):
        made.append(with_other_name(scopes, with_made(part, made), index, names))
    return tuple(made[::-1])


def with_other_name(scopes, part, index, names):
    """A part with its other NAMES, if it has any."""
    word = part[0]
    told = scopes.tells[index]
    if word == "name":
        return ("name", names[told])
    if word in ("set", "let"):
        return (word, names[told], part[2])
    if word == "try":
        return ("try", part[1], names[told], part[3])
    if word == "function":
        first = scopes.firsts[told]
        return ("function", tuple(names[first:first + scopes.takes[told]]), part[2])
    return part


def section(scopes, slots, code, block):
    """The SECTION of a CODE."""
    names = scopes.takes[code]
    first = scopes.firsts[code]
    boxed = [slots[variable] for variable in range(first, first + names) if variable in scopes.captured]
    many = len([own for _, own in scopes.variables if own == code])
    return (names, many, len(scopes.cells[code]), tuple(boxed), block)


def slots_of(scopes):
    """The list of the slots of all VARIABLES."""
    many = {}
    slots = []
    for _, code in scopes.variables:
        slots.append(many.get(code, 0))
        many[code] = slots[-1] + 1
    return slots


def planned(scopes, slots, part, index):
    """What stands in a PLAN in the place of a part."""
    word = part[0]
    told = scopes.tells[index]
    if word == "name":
        return worded(scopes, slots, told, scopes.codes[index], READ_WORDS)
    if word == "set":
        return ("set", *worded(scopes, slots, told, scopes.codes[index], SET_WORDS), part[2])
    if word == "let":
        return ("let", *begun(scopes, slots, told), part[2])
    if word == "try":
        return ("try", part[1], *begun(scopes, slots, told), part[3])
    if word == "function":
        return ("function", told, takes_of(scopes, slots, told))
    return part


def begun(scopes, slots, variable):
    """How a VARIABLE begins: the pair of a word and its slot."""
    return ("box" if variable in scopes.captured else "store", slots[variable])


def worded(scopes, slots, variable, code, words):
    """How a VARIABLE is come to in a CODE: one of three words, and its slot or CELL there."""
    if scopes.variables[variable][1] != code:
        return (words[2], scopes.cells[code].index(variable))
    return (words[1] if variable in scopes.captured else words[0], slots[variable])


def takes_of(scopes, slots, code):
    """From where the function with this CODE takes its CELLS."""
    outer = scopes.outer[code]
    return tuple([worded(scopes, slots, variable, outer, ("slot", "slot", "up")) for variable in scopes.cells[code]])
