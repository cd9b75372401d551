"""Trims: PROGRAMS made shorter by rules that keep every run."""

from gathermill.checker import program_of, table_of
from gathermill.codes import codes_named
from gathermill.errors import CanNot
from gathermill.instructions import TELLING, places_told
from gathermill.trim_rules import RULES, stead_of
from gathermill.tuples import frozen, is_same
from gathermill.walks import walk_of

CODES_TRIM = ("codes", 0, 0)


def trims(program):
    """The list of all trims of a PROGRAM."""
    return all_trims(taken_program(program))


def is_trim(program, thing):
    """Whether thing is a trim of a PROGRAM."""
    return is_one_of(all_trims(taken_program(program)), thing)


def trimmed_by(program, trim):
    """The PROGRAM that comes of a trim."""
    program = taken_program(program)
    trim = frozen(trim)
    if not is_one_of(all_trims(program), trim):
        raise CanNot()
    return without_codes(program) if trim == CODES_TRIM else with_trim(program, trim)


def trimmed(program):
    """What comes of a PROGRAM if its first trim is done, again and again."""
    program = taken_program(program)
    # A trim in one CODE changes no trim in another one, so each CODE is done with before the next one.
    for code in range(len(program)):
        first = trims_in(program, code, True)
        while first:
            program = with_trim(program, first[0])
            first = trims_in(program, code, True)
    return without_codes(program)


def taken_program(program):
    """The PROGRAM, made of tuples, which the checker must take."""
    program = program_of(program)
    table_of(program)
    return program


def is_one_of(found, thing):
    """Whether thing is one of the trims that were found."""
    return any([is_same(trim, thing) for trim in found])


def all_trims(program):
    """The list of all trims of a PROGRAM that the checker takes."""
    found = []
    for code in range(len(program)):
        found.extend(trims_in(program, code, False))
    if len(codes_come_to(program)) < len(program):
        found.append(CODES_TRIM)
    return found


def trims_in(program, code, only_first):
    """The list of the trims of a CODE, or of the first one alone."""
    instructions = program[code][3]
    alive = walk_of(program, code).shapes
    dead = [place for place in range(len(instructions)) if place not in alive]
    if dead:
        return [("dead", code, dead[0])]
    told = places_told(instructions)
    found = []
    for place in range(len(instructions)):
        for rule in RULES:
            if stead_of(rule, instructions, place, told) is not None:
                found.append((rule, code, place))
        if found and only_first:
            return found[:1]
    return found


def with_trim(program, trim):
    """The PROGRAM that comes of a trim in one of its CODES."""
    rule, code, place = trim
    names, slots, cells, instructions = program[code]
    if rule == "dead":
        fewer = without_dead(instructions, walk_of(program, code).shapes)
    else:
        many, stead = stead_of(rule, instructions, place, places_told(instructions))
        fewer = with_stead(instructions, place, many, stead)
    return (*program[:code], (names, slots, cells, fewer), *program[code + 1:])


def with_stead(instructions, place, many, stead):
    """INSTRUCTIONS with others in the stead of so many from a place on."""
    less = many - len(stead)
    new_places = {own: own if own <= place else own - less for own in range(len(instructions))}
    return with_places((*instructions[:place], *stead, *instructions[place + many:]), new_places)


def without_dead(instructions, alive):
    """INSTRUCTIONS without those that are never come to; a guard that tells one of these tells 0 then."""
    new_places = {place: at for at, place in enumerate(sorted(alive))}
    return with_places([instructions[place] for place in sorted(alive)], new_places)


def with_places(instructions, new_places):
    """The tuple of INSTRUCTIONS in which places are told anew."""
    built = []
    for instruction in instructions:
        if instruction[0] in TELLING:
            built.append((instruction[0], new_places.get(instruction[1], 0)))
        else:
            built.append(instruction)
    return tuple(built)


def codes_come_to(program):
    """A dict of the CODES that are come to."""
    found = {0: True}
    waiting = [0]
    while waiting:
        for code in codes_named(program[waiting.pop()]):
            if code < len(program) and code not in found:
                found[code] = True
                waiting.append(code)
    return found


def without_codes(program):
    """The PROGRAM without the CODES that are not come to."""
    kept = sorted(codes_come_to(program))
    new_codes = {code: at for at, code in enumerate(kept)}
    return tuple([with_codes(program[code], new_codes) for code in kept])


def with_codes(code, new_codes):
    """A CODE in which CODES are told anew."""
    names, slots, cells, instructions = code
    built = []
    for own in instructions:
        # A close that is never come to may tell no CODE: it stays.
        if own[0] == "close" and own[1] in new_codes:
            built.append(("close", new_codes[own[1]], own[2]))
        else:
            built.append(own)
    return (names, slots, cells, tuple(built))
