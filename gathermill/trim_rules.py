"""The rules of trims: what may stand in the stead of some INSTRUCTIONS, one behind the other.

Each rule tells a pair: how many INSTRUCTIONS from a place on it names, and the tuple of those in their stead; None if
it can not be done there.
"""

from gathermill.values import one_result, two_result

ORDERS = ("<", "<=", "==", "!=")


def is_truth_constant(instruction):
    """Whether an INSTRUCTION is a constant with a truth."""
    return instruction[0] == "constant" and isinstance(instruction[1], bool)


def word_at(instructions, place):
    """The word of the INSTRUCTION at a place, "" behind the last one."""
    return instructions[place][0] if place < len(instructions) else ""


def worked(instructions, place):
    """An operation on constants is worked ahead."""
    first = instructions[place]
    if first[0] != "constant":
        return None
    if word_at(instructions, place + 1) == "one":
        told, value = one_result(instructions[place + 1][1], first[1])
        return (2, (("constant", value),)) if told else None
    if word_at(instructions, place + 1) != "constant" or word_at(instructions, place + 2) != "two":
        return None
    told, value = two_result(instructions[place + 2][1], first[1], instructions[place + 1][1])
    return (3, (("constant", value),)) if told else None


def dropped(instructions, place):
    """What is pushed and goes away at once is not pushed."""
    if instructions[place][0] not in ("constant", "load", "open", "up"):
        return None
    return (2, ()) if word_at(instructions, place + 1) == "pop" else None


def known(instructions, place):
    """A choice by a constant is made ahead."""
    first = instructions[place]
    if not is_truth_constant(first) or word_at(instructions, place + 1) != "unless":
        return None
    return (2, () if first[1] else (("jump", instructions[place + 1][1]),))


def sure(instructions, place):
    """What surely is a truth, or is looked at again, need not be looked at."""
    first = instructions[place]
    following = word_at(instructions, place + 1)
    if first[0] == "sure" and following == "unless":
        return (2, (instructions[place + 1],))
    if following != "sure":
        return None
    tells_truth = is_truth_constant(first) or first in (("sure",), ("one", "not"))
    if tells_truth or (first[0] == "two" and first[1] in ORDERS):
        return (2, (first,))
    return None


def twice(instructions, place):
    """The contrary of the contrary is the same truth."""
    return (2, (("sure",),)) if instructions[place:place + 2] == (("one", "not"), ("one", "not")) else None


def same(instructions, place):
    """A slot need not get what it has."""
    first = instructions[place]
    if first[0] != "load" or instructions[place + 1:place + 2] != (("store", first[1]),):
        return None
    return (2, ())


def guarded(instructions, place):
    """A GUARD of nothing is not needed."""
    if instructions[place][0] != "guard" or word_at(instructions, place + 1) != "unguard":
        return None
    return (2, ())


def next_place(instructions, place):
    """A jump to the next place is not needed."""
    return (1, ()) if instructions[place] == ("jump", place + 1) else None


def thread(instructions, place):
    """A jump to a jump goes at once to where this leads."""
    word = instructions[place][0]
    if word not in ("jump", "unless"):
        return None
    end = end_of_jumps(instructions, instructions[place][1])
    if end is None or end == instructions[place][1]:
        return None
    return (1, ((word, end),))


def end_of_jumps(instructions, place):
    """The place without a jump to which jumps lead from a place; None if they go round for ever."""
    passed = {}
    while instructions[place][0] == "jump":
        if place in passed:
            return None
        passed[place] = True
        place = instructions[place][1]
    return place


RULES = ("worked", "dropped", "known", "sure", "twice", "same", "guarded", "next", "thread")
ACTIONS = {
    "worked": worked,
    "dropped": dropped,
    "known": known,
    "sure": sure,
    "twice": twice,
    "same": same,
    "guarded": guarded,
    "next": next_place,
    "thread": thread,
}


def stead_of(rule, instructions, place, told):
    """What a rule tells for a place, told being the places that INSTRUCTIONS of the CODE tell."""
    action = ACTIONS[rule]
    found = action(instructions, place)
    if found is None or any([other in told for other in range(place + 1, place + found[0])]):
        return None
    return found
