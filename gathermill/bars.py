"""PATHS and BARS: why the checker does not take a CODE."""

from gathermill.instructions import slots_told
from gathermill.sheets import first_kinds, first_sheet, lacks, sheets_on, ways_on
from gathermill.values import is_count
from gathermill.walks import kinds_of_walk, lacking_places, walk_of


def is_step(thing):
    """Whether thing is a pair (place, how)."""
    if not isinstance(thing, tuple) or len(thing) != 2 or not is_count(thing[0]):
        return False
    return isinstance(thing[1], str) and thing[1] in ("on", "lack")


def sheets_of_path(program, code, path):
    """The list of the SHEETS at the places of a PATH; None if path is none."""
    if not isinstance(path, tuple) or not path or not all([is_step(own) for own in path]):
        return None
    if path[0] != (0, "on"):
        return None
    sheets = [first_sheet(program[code])]
    for (place, _), step in zip(path, path[1:]):
        following = None
        if not lacks(program, code, place, sheets[-1]):
            following = sheet_behind(program[code][3][place], place, sheets[-1], step)
        if following is None:
            return None
        sheets.append(following)
    return sheets


def sheet_behind(instruction, place, sheet, step):
    """The SHEET to which a step leads from an INSTRUCTION; None if there is no such step."""
    for other, how, following in sheets_on(instruction, place, sheet):
        if (other, how) == step:
            return following
    return None


def is_bar_of(program, thing):
    """Whether thing is a BAR."""
    if not isinstance(thing, tuple) or len(thing) not in (2, 3):
        return False
    code = thing[0]
    if not is_count(code) or code >= len(program):
        return False
    places = []
    sheets = []
    for path in thing[1:]:
        along = sheets_of_path(program, code, path)
        if along is None:
            return False
        places.append(path[-1][0])
        sheets.append(along[-1])
    if len(places) == 1:
        return lacks(program, code, places[0], sheets[0])
    return places[0] == places[1] and sheets[0][1:] != sheets[1][1:]


def bar_of(program, code):
    """A BAR of a CODE; None if there is none."""
    walk = walk_of(program, code)
    if walk.bad is None:
        return bar_by_kinds(program, code, walk)
    paths = [path_to(walk.before, walk.bad)]
    if walk.meeting is not None:
        place, how = walk.meeting
        paths.append((*path_to(walk.before, place), (walk.bad, how)))
    for path in paths:
        lacking = up_to_lack(program, code, path)
        if lacking is not None:
            return (code, lacking)
    return (code, *paths)


def path_to(before, end):
    """The way to an end, by a dict of the pairs (end, how) from which each was come to, None for the first one."""
    path = []
    while before[end] is not None:
        last, how = before[end]
        path.append((end, how))
        end = last
    path.append((end, "on"))
    return tuple(path[::-1])


def up_to_lack(program, code, path):
    """A way up to its first INSTRUCTION that lacks something; None if none does, maybe but the last one."""
    sheet = first_sheet(program[code])
    for at, (place, _) in enumerate(path):
        if lacks(program, code, place, sheet):
            return path[:at + 1]
        if at + 1 < len(path):
            sheet = sheet_behind(program[code][3][place], place, sheet, path[at + 1])
    return None


def bar_by_kinds(program, code, walk):
    """A BAR of a CODE in which nothing but kinds can lack; None if there is none."""
    lacking = lacking_places(program, code, kinds_of_walk(program, code, walk))
    if not lacking:
        return None
    for slot in slots_told(program[code][3][lacking[0]]):
        path = path_without_kind(program, code, walk, lacking[0], slot)
        if path is not None:
            return (code, up_to_lack(program, code, path))
    return None


def path_without_kind(program, code, walk, end, slot):
    """A way to a place that does not bring the kind for a slot that the INSTRUCTION there asks for; None if all do."""
    instructions = program[code][3]
    wanted = "plain" if instructions[end][0] in ("load", "box") else "cell"
    states = [(0, first_kinds(program[code])[slot])]
    before = {states[0]: None}
    at = 0
    while at < len(states):
        place, kind = states[at]
        if place == end and kind != wanted:
            return tuple([(own, how) for (own, _), how in path_to(before, states[at])])
        height, guards = walk.shapes[place]
        for other, how, _, _ in ways_on(instructions[place], place, height, guards):
            state = (other, kind_by(instructions[place], slot, kind, how))
            if state not in before:
                before[state] = (states[at], how)
                states.append(state)
        at += 1
    return None


def kind_by(instruction, slot, kind, how):
    """The kind of one slot that a way on from an INSTRUCTION brings."""
    if how == "lack" or instruction[0] not in ("store", "box") or instruction[1] != slot:
        return kind
    return "plain" if instruction[0] == "store" else "cell"
