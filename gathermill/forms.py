"""The forms of EXPRESSIONS and STATEMENTS: for each word the kinds of the fields behind it.

A field is of the kind "constant", "name", "names" (a tuple of unlike NAMES), "one" or "two" (an operation on as many
VALUES), "expression", "expressions" (a tuple of them), or "block".
"""

from gathermill.values import is_constant, is_name, is_tuple_of

# How close operations bind that stand between two EXPRESSIONS, ahead of one, and (calls and items) behind one.
BINDS = {"or": 1, "and": 2, "<": 3, "<=": 3, "==": 3, "!=": 3, "+": 4, "-": 4, "*": 5, "/": 5, "~": 5}
BIND_AHEAD = 6
BIND_BEHIND = 7
ONE = ("-", "not")
TWO = ("+", "-", "*", "/", "~", "<", "<=", "==", "!=")
EXPRESSIONS = {
    "constant": ("constant",),
    "name": ("name",),
    "function": ("names", "block"),
    "call": ("expression", "expressions"),
    "array": ("expressions",),
    "many": ("expression", "expression"),
    "item": ("expression", "expression"),
    "length": ("expression",),
    "one": ("one", "expression"),
    "two": ("two", "expression", "expression"),
    "both": ("expression", "expression"),
    "either": ("expression", "expression"),
}
STATEMENTS = {
    "let": ("name", "expression"),
    "set": ("name", "expression"),
    "setitem": ("expression", "expression", "expression"),
    "show": ("expression",),
    "fail": ("expression",),
    "return": ("expression",),
    "do": ("expression",),
    "if": ("expression", "block", "block"),
    "while": ("expression", "block"),
    "break": (),
    "try": ("block", "name", "block"),
}


def fits(kind, thing):
    """Whether thing is a field of this kind, or (kind "statement") a STATEMENT."""
    waiting = [(kind, thing)]
    while waiting:
        kind, thing = waiting.pop()
        inner = inner_things(kind, thing)
        if inner is None:
            return False
        waiting.extend(inner)
    return True


def inner_things(kind, thing):
    """The pairs of a kind and a thing that must fit for thing to be of this kind; None if it can not be."""
    if kind not in ("expression", "statement", "expressions", "block"):
        return [] if is_plain_field(kind, thing) else None
    if not isinstance(thing, tuple):
        return None
    if kind == "expressions":
        return [("expression", own) for own in thing]
    if kind == "block":
        return [("statement", own) for own in thing]
    if not thing or not isinstance(thing[0], str):
        return None
    kinds = EXPRESSIONS.get(thing[0]) if kind == "expression" else STATEMENTS.get(thing[0])
    if kinds is None or len(kinds) != len(thing) - 1:
        return None
    return list(zip(kinds, thing[1:]))


def is_plain_field(kind, thing):
    """Whether thing is a field of a kind in which no parts lie."""
    if kind == "constant":
        return is_constant(thing)
    if kind == "name":
        return is_name(thing)
    if kind == "names":
        return is_tuple_of(is_name, thing) and len(set(thing)) == len(thing)
    return isinstance(thing, str) and thing in (ONE if kind == "one" else TWO)


def fields_of(part):
    """The pairs (kind, field) of a part."""
    word = part[0]
    kinds = EXPRESSIONS[word] if word in EXPRESSIONS else STATEMENTS[word]
    return list(zip(kinds, part[1:]))


def inner_parts(part):
    """The tuple of the parts that lie directly in a part."""
    inner = []
    for kind, field in fields_of(part):
        if kind == "expression":
            inner.append(field)
        elif kind in ("expressions", "block"):
            inner.extend(field)
    return tuple(inner)


def with_inner_parts(part, inner):
    """A part with others, as many, in the place of those that lie directly in it."""
    fields = [part[0]]
    at = 0
    for kind, field in fields_of(part):
        if kind == "expression":
            fields.append(inner[at])
            at += 1
        elif kind in ("expressions", "block"):
            fields.append(tuple(inner[at:at + len(field)]))
            at += len(field)
        else:
            fields.append(field)
    return tuple(fields)
