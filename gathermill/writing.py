"""The pieces of the text by which parts of a TREE are written.

A piece is a string, or a pair (part, bind): a part that is still to be written, in brackets if it binds less close.
"""

from gathermill.forms import BIND_AHEAD, BIND_BEHIND, BINDS

# Closer than all EXPRESSIONS bind, so brackets are written in any case.
BRACKETS = 8


def pieces_of(part, least):
    """The list of the pieces of a part, in brackets if it binds less close than least."""
    if part[0] in ("let", "set", "setitem", "show", "fail", "return", "do", "break"):
        return [*plain_statement_pieces(part), ";\n"]
    if part[0] in ("if", "while", "try"):
        return [*block_statement_pieces(part), "\n"]
    pieces = expression_pieces(part)
    return ["(", *pieces, ")"] if bind_of(part) < least else pieces


def plain_statement_pieces(part):
    """The pieces of a STATEMENT without BLOCKS, but for its ; ."""
    word = part[0]
    if word == "let":
        return ["let ", part[1], " = ", (part[2], 0)]
    if word == "set":
        return [part[1], " = ", (part[2], 0)]
    if word == "setitem":
        return [(part[1], BIND_BEHIND), "[", (part[2], 0), "] = ", (part[3], 0)]
    if word == "break":
        return ["break"]
    return [(part[1], 0)] if word == "do" else [word, " ", (part[1], 0)]


def block_statement_pieces(part):
    """The pieces of a STATEMENT with BLOCKS."""
    if part[0] == "while":
        return ["while ", (part[1], 0), " ", *block_pieces(part[2])]
    if part[0] == "try":
        return ["try ", *block_pieces(part[1]), " catch ", part[2], " ", *block_pieces(part[3])]
    pieces = ["if ", (part[1], 0), " ", *block_pieces(part[2])]
    return [*pieces, " else ", *block_pieces(part[3])] if part[3] else pieces


def block_pieces(block):
    """The pieces of a BLOCK in its brackets."""
    return ["{\n", *[(statement, 0) for statement in block], "}"]


def expression_pieces(part):
    """The pieces of an EXPRESSION."""
    word = part[0]
    if word in ("one", "two", "both", "either"):
        return operation_pieces(part)
    if word == "constant":
        return [constant_text(part[1])]
    if word == "name":
        return [part[1]]
    if word == "function":
        return ["fn (", ", ".join(part[1]), ") ", *block_pieces(part[2])]
    if word == "call":
        return [(part[1], BIND_BEHIND), "(", *listed_pieces(part[2]), ")"]
    if word == "array":
        return ["[", *listed_pieces(part[1]), "]"]
    if word == "item":
        return [(part[1], BIND_BEHIND), "[", (part[2], 0), "]"]
    return ["len(" if word == "length" else "many(", *listed_pieces(part[1:]), ")"]


def listed_pieces(parts):
    """The pieces of EXPRESSIONS with , between each two."""
    pieces = []
    for part in parts:
        if pieces:
            pieces.append(", ")
        pieces.append((part, 0))
    return pieces


def operation_pieces(part):
    """The pieces of an operation."""
    bind = bind_of(part)
    if part[0] == "one":
        # A - right ahead of a number would be read as part of the CONSTANT.
        needs_brackets = part[1] == "-" and begins_with_number(part[2])
        return ["-" if part[1] == "-" else "not ", (part[2], BRACKETS if needs_brackets else bind)]
    if part[0] == "two":
        return [(part[2], bind), f" {part[1]} ", (part[3], bind + 1)]
    return [(part[1], bind), " and " if part[0] == "both" else " or ", (part[2], bind + 1)]


def begins_with_number(part):
    """Whether the first SIGN of an EXPRESSION, where it stands without brackets behind a -, is a number."""
    while part[0] in ("call", "item"):
        part = part[1]
    return part[0] == "constant" and constant_text(part[1])[0] in "0123456789"


def bind_of(part):
    """How close an EXPRESSION binds."""
    if part[0] == "two":
        return BINDS[part[1]]
    if part[0] == "both":
        return BINDS["and"]
    if part[0] == "either":
        return BINDS["or"]
    return BIND_AHEAD if part[0] == "one" else BIND_BEHIND


def constant_text(constant):
    """The text by which a CONSTANT is written."""
    if constant is None:
        return "nothing"
    if isinstance(constant, bool):
        return "true" if constant else "false"
    return f'"{constant}"' if isinstance(constant, str) else str(constant)
