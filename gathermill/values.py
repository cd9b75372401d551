"""NUMBERS, WORDS, NAMES, CONSTANTS, REFERENCES, VALUES and OBJECTS, and what operations tell of VALUES."""

from gathermill.errors import Unfit

LEAST = -1000000000
GREATEST = 1000000000
LONGEST = 12
KEYS = (
    "let", "fn", "if", "else", "while", "break", "return", "show", "fail", "try", "catch",
    "true", "false", "nothing", "and", "or", "not", "many", "len",
)


def is_whole(thing):
    """Whether thing is a number: True and False are none."""
    return isinstance(thing, int) and not isinstance(thing, bool)


def is_count(thing):
    """Whether thing is a number from 0."""
    return is_whole(thing) and thing >= 0


def is_number(thing):
    """Whether thing is a NUMBER."""
    return is_whole(thing) and LEAST <= thing <= GREATEST


def is_word(thing):
    """Whether thing is a WORD."""
    if not isinstance(thing, str) or not 1 <= len(thing) <= LONGEST:
        return False
    return all(["a" <= letter <= "z" for letter in thing])


def is_name(thing):
    """Whether thing is a NAME."""
    return is_word(thing) and thing not in KEYS


def is_constant(thing):
    """Whether thing is a CONSTANT."""
    return thing is None or isinstance(thing, bool) or is_number(thing) or is_word(thing)


def is_reference(thing):
    """Whether thing is a REFERENCE."""
    return isinstance(thing, tuple) and len(thing) == 2 and thing[0] == "@" and is_count(thing[1])


def is_value(thing):
    """Whether thing is a VALUE."""
    return is_constant(thing) or is_reference(thing)


def is_object(thing):
    """Whether thing is an OBJECT."""
    if not isinstance(thing, tuple) or len(thing) not in (2, 3):
        return False
    if len(thing) == 3:
        return thing[0] == "function" and is_count(thing[1]) and is_tuple_of(is_reference, thing[2])
    if thing[0] == "cell":
        return is_value(thing[1])
    return thing[0] == "array" and is_tuple_of(is_value, thing[1])


def is_tuple_of(is_member, thing):
    """Whether thing is a tuple of things for each of which is_member tells True."""
    return isinstance(thing, tuple) and all([is_member(own) for own in thing])


def kind_of(value):
    """The kind of a VALUE."""
    if isinstance(value, bool):
        return "truth"
    if isinstance(value, int):
        return "number"
    if isinstance(value, str):
        return "word"
    return "nothing" if value is None else "reference"


def words_of(item):
    """How many words an OBJECT has."""
    if item[0] == "cell":
        return 2
    return 1 + len(item[-1])


def showing(value, item, names):
    """The text that is shown for a VALUE: item is the OBJECT that it refers to."""
    kind = kind_of(value)
    if kind == "reference":
        return object_showing(item, names)
    if kind == "truth":
        return "true" if value else "false"
    return "nothing" if kind == "nothing" else str(value)


def object_showing(item, names):
    """The text that is shown for an OBJECT, which is a FUNCTION of so many NAMES, or an ARRAY."""
    if item[0] == "cell":
        raise Unfit()
    return f"function {names}" if item[0] == "function" else f"array {len(item[1])}"


def one_result(op, value):
    """The pair (True, result) of an operation on one VALUE, or (False, lack)."""
    wanted = "number" if op == "-" else "truth"
    if kind_of(value) != wanted:
        return (False, "kind")
    return (True, -value if op == "-" else not value)


def two_result(op, one, other):
    """The pair (True, result) of an operation on two VALUES, or (False, lack)."""
    if op == "==":
        return (True, is_same_value(one, other))
    if op == "!=":
        return (True, not is_same_value(one, other))
    if kind_of(one) != "number" or kind_of(other) != "number":
        return (False, "kind")
    if op == "<":
        return (True, one < other)
    if op == "<=":
        return (True, one <= other)
    return number_result(op, one, other)


def is_same_value(one, other):
    """Whether two VALUES are one: of one kind, and the same CONSTANT or REFERENCE."""
    kind = kind_of(one)
    if kind != kind_of(other):
        return False
    if kind == "reference":
        return one[1] == other[1]
    return one == other


def number_result(op, one, other):
    """The result of an operation that tells a NUMBER of two NUMBERS, or its lack."""
    if op in ("/", "~") and other == 0:
        return (False, "divide")
    if op == "+":
        result = one + other
    elif op == "-":
        result = one - other
    elif op == "*":
        result = one * other
    elif op == "/":
        result = one // other
    else:
        result = one - other * (one // other)
    return (True, result) if is_number(result) else (False, "range")
