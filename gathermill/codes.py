"""Codes: what INSTRUCTIONS, CODES and PROGRAMS are, where INSTRUCTIONS lead, and the texts of PROGRAMS."""

from gathermill.code_lines import Line, head_parts, head_read, instruction_parts, instruction_read
from gathermill.errors import BadText
from gathermill.instructions import FIELDS, is_field
from gathermill.values import is_count, is_tuple_of

EFFECTS = {
    "constant": (0, 1),
    "load": (0, 1),
    "open": (0, 1),
    "up": (0, 1),
    "close": (0, 1),
    "store": (1, 0),
    "fill": (1, 0),
    "upfill": (1, 0),
    "pop": (1, 0),
    "unless": (1, 0),
    "show": (1, 0),
    "return": (1, 0),
    "fail": (1, 0),
    "box": (0, 0),
    "jump": (0, 0),
    "guard": (0, 0),
    "unguard": (0, 0),
    "halt": (0, 0),
    "sure": (1, 1),
    "one": (1, 1),
    "length": (1, 1),
    "two": (2, 1),
    "many": (2, 1),
    "item": (2, 1),
    "setitem": (3, 0),
}


def is_instruction(thing):
    """Whether thing is an INSTRUCTION."""
    if not isinstance(thing, tuple) or not thing or not isinstance(thing[0], str):
        return False
    kinds = FIELDS.get(thing[0])
    if kinds is None or len(kinds) != len(thing) - 1:
        return False
    return all([is_field(kind, own) for kind, own in zip(kinds, thing[1:])])


def is_code(thing):
    """Whether thing is a CODE."""
    if not isinstance(thing, tuple) or len(thing) != 4:
        return False
    names, slots, cells, instructions = thing
    if not is_count(names) or not is_count(slots) or not is_count(cells) or slots < names:
        return False
    return is_tuple_of(is_instruction, instructions) and len(instructions) > 0


def is_program(thing):
    """Whether thing is a PROGRAM."""
    if not is_tuple_of(is_code, thing) or not thing:
        return False
    return thing[0][0] == 0 and thing[0][2] == 0


def effect_of(instruction):
    """The pair of how many VALUES an INSTRUCTION takes off the stack and puts on it."""
    if instruction[0] == "call":
        return (instruction[1] + 1, 1)
    if instruction[0] == "array":
        return (instruction[1], 1)
    return EFFECTS[instruction[0]]


def next_places(instruction, place):
    """The set of the places at which a CODE can go on behind an INSTRUCTION that stands at this place."""
    word = instruction[0]
    if word in ("return", "fail", "halt"):
        return ()
    if word == "jump":
        return (instruction[1],)
    if word == "unless":
        return tuple(sorted(set([instruction[1], place + 1])))
    return (place + 1,)


def codes_named(code):
    """The set of the numbers of the CODES in the close INSTRUCTIONS of a CODE."""
    return tuple(sorted(set([own[1] for own in code[3] if own[0] == "close"])))


def instruction_text(instruction):
    """The parts of an INSTRUCTION with one blank between two."""
    return " ".join(instruction_parts(instruction))


def program_text(program):
    """The text of a PROGRAM."""
    lines = []
    for number, code in enumerate(program):
        lines.append(" ".join(head_parts(number, code)))
        lines.extend([f"{place} {instruction_text(own)}" for place, own in enumerate(code[3])])
    return "".join([f"{line}\n" for line in lines])


def program_read(text):
    """The PROGRAM that is told by a text."""
    heads = []
    bodies = []
    rows = text.split("\n")
    for number, row in enumerate(rows, 1):
        line = Line([part for part in row.split(" ") if part != ""], number)
        if line.has_more() and line.parts[0] == "code":
            # A CODE can not begin behind one without INSTRUCTIONS.
            if bodies and not bodies[-1]:
                line.refuse()
            heads.append(head_read(line, len(heads)))
            bodies.append([])
        elif line.has_more():
            if not bodies:
                line.refuse()
            bodies[-1].append(instruction_read(line, len(bodies[-1])))
    if not bodies or not bodies[-1]:
        raise BadText(len(rows) + 1)
    return tuple([(*head, tuple(body)) for head, body in zip(heads, bodies)])
