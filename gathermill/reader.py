"""Reads the TREE that a text of the language is written by.

What is begun and not yet ended waits on a list of holders, the innermost last, so texts may be nested at will:
("operator", bind, op, left): an operation whose last EXPRESSION is being read, left None if it stands ahead of one;
("block", owner, statements): a BLOCK, owner telling what it is part of;
("behind else", e, block): the if STATEMENT whose else is followed by another if;
(word, ..): anything else that holds the EXPRESSION which is being read, with what was read ahead of it.
"""

from gathermill.errors import BadText
from gathermill.forms import BIND_AHEAD, BINDS
from gathermill.signs import signs_of

PLAIN_KEYS = {"true": True, "false": False, "nothing": None}


class Reader:
    """The SIGNS of a text, how far they are read, and what is begun."""

    def __init__(self, text):
        self.signs = signs_of(text)
        self.last_line = text.count("\n") + 1
        self.at = 0
        self.holders = [("block", ("tree",), [])]
        self.value = None

    def sign(self):
        """The kind and the what of the SIGN that comes next."""
        return self.signs[self.at][:2] if self.at < len(self.signs) else ("end", "")

    def refuse(self):
        """The SIGN that comes next can not stand here."""
        line = self.signs[self.at][2] if self.at < len(self.signs) else self.last_line
        raise BadText(line)

    def passes(self, kind, what):
        """Whether the SIGN that comes next is this one; if so it is passed."""
        found = self.sign() == (kind, what)
        if found:
            self.at += 1
        return found

    def want(self, kind, what):
        """Passes this SIGN."""
        if not self.passes(kind, what):
            self.refuse()

    def want_mark(self, mark):
        """Passes this mark."""
        self.want("mark", mark)

    def want_name(self):
        """Passes a name and tells it."""
        kind, what = self.sign()
        if kind != "name":
            self.refuse()
        self.at += 1
        return what

    def begin(self, holder):
        """An EXPRESSION comes next, held by this holder."""
        self.holders.append(holder)
        return "expression"

    def begin_block(self, owner):
        """The STATEMENTS of a BLOCK come next, behind its {."""
        self.want_mark("{")
        self.holders.append(("block", owner, []))
        return "statement"

    def end_operand(self, value):
        """An EXPRESSION was read, as far as is known."""
        self.value = value
        return "behind"

    def end_statement(self, statement):
        """A STATEMENT was read: it belongs to the BLOCK around it, maybe over some else if."""
        while self.holders[-1][0] == "behind else":
            _, test, block = self.holders.pop()
            statement = ("if", test, block, (statement,))
        self.holders[-1][2].append(statement)
        return "statement"


def tree_of(text):
    """The TREE that text is written by."""
    reader = Reader(text)
    state = "statement"
    while state != "end":
        if state == "statement":
            state = read_statement(reader)
        elif state == "expression":
            state = read_operand(reader)
        else:
            state = read_behind(reader)
    return tuple(reader.holders[0][2])


def read_statement(reader):
    """Reads the begin of a STATEMENT, or the end of a BLOCK."""
    kind, what = reader.sign()
    if kind == "end" and len(reader.holders) == 1:
        return "end"
    if kind == "mark" and what == "}" and len(reader.holders) > 1:
        return end_block(reader)
    if kind != "key":
        return reader.begin(("do",))
    if what in ("show", "fail", "return", "if", "while"):
        reader.at += 1
        return reader.begin((what,))
    if what == "let":
        reader.at += 1
        name = reader.want_name()
        reader.want_mark("=")
        return reader.begin(("let", name))
    if what == "break":
        reader.at += 1
        reader.want_mark(";")
        return reader.end_statement(("break",))
    if what == "try":
        reader.at += 1
        return reader.begin_block(("try",))
    return reader.begin(("do",))


def end_block(reader):
    """Passes the } of a BLOCK, and what belongs to it behind that."""
    reader.at += 1
    _, owner, statements = reader.holders.pop()
    word, *fields = owner
    block = tuple(statements)
    if word == "function":
        return reader.end_operand(("function", fields[0], block))
    if word == "if":
        return read_else(reader, fields[0], block)
    if word == "else":
        return reader.end_statement(("if", fields[0], fields[1], block))
    if word == "while":
        return reader.end_statement(("while", fields[0], block))
    if word == "try":
        reader.want("key", "catch")
        return reader.begin_block(("catch", block, reader.want_name()))
    return reader.end_statement(("try", fields[0], fields[1], block))


def read_else(reader, test, block):
    """Reads what stands behind the first BLOCK of an if."""
    if not reader.passes("key", "else"):
        return reader.end_statement(("if", test, block, ()))
    if reader.passes("key", "if"):
        reader.holders.append(("behind else", test, block))
        return reader.begin(("if",))
    return reader.begin_block(("else", test, block))


def read_operand(reader):
    """Reads the begin of an EXPRESSION, up to where another one or a BLOCK begins in it."""
    kind, what = reader.sign()
    if kind == "end":
        reader.refuse()
    if kind == "key" and what not in PLAIN_KEYS:
        return read_key_operand(reader, what)
    if kind == "mark":
        return read_mark_operand(reader, what)
    reader.at += 1
    if kind == "name":
        return reader.end_operand(("name", what))
    return reader.end_operand(("constant", PLAIN_KEYS[what] if kind == "key" else what))


def read_key_operand(reader, key):
    """Reads the begin of an EXPRESSION that begins with this key."""
    if key not in ("fn", "many", "len", "not"):
        reader.refuse()
    reader.at += 1
    if key == "not":
        return reader.begin(("operator", BIND_AHEAD, "not", None))
    reader.want_mark("(")
    if key == "fn":
        return reader.begin_block(("function", read_names(reader)))
    return reader.begin((key,))


def read_names(reader):
    """Reads the unlike names of a function, behind its (, and their )."""
    names = []
    if reader.passes("mark", ")"):
        return ()
    while True:
        if reader.sign()[1] in names:
            reader.refuse()
        names.append(reader.want_name())
        if reader.passes("mark", ")"):
            return tuple(names)
        reader.want_mark(",")


def read_mark_operand(reader, mark):
    """Reads the begin of an EXPRESSION that begins with this mark."""
    if mark not in ("-", "(", "["):
        reader.refuse()
    reader.at += 1
    kind, what = reader.sign()
    if mark == "(":
        return reader.begin(("paren",))
    if mark == "[":
        return read_array(reader)
    if kind == "number":
        reader.at += 1
        return reader.end_operand(("constant", -what))
    return reader.begin(("operator", BIND_AHEAD, "-", None))


def read_array(reader):
    """Reads on behind the [ of an array."""
    if reader.passes("mark", "]"):
        return reader.end_operand(("array", ()))
    return reader.begin(("array", []))


def read_behind(reader):
    """Reads the SIGN behind what may be an EXPRESSION, or may go on as one."""
    kind, what = reader.sign()
    if kind == "mark" and what == "(":
        reader.at += 1
        if reader.passes("mark", ")"):
            return reader.end_operand(("call", reader.value, ()))
        return reader.begin(("call", reader.value, []))
    if kind == "mark" and what == "[":
        reader.at += 1
        return reader.begin(("item", reader.value))
    if kind == "mark" and what == "=":
        return read_setting(reader)
    if kind in ("mark", "key") and what in BINDS:
        reader.at += 1
        bind = BINDS[what]
        end_operations(reader, bind)
        return reader.begin(("operator", bind, what, reader.value))
    end_operations(reader, 0)
    return end_expression(reader)


def read_setting(reader):
    """Reads the = behind what a STATEMENT sets."""
    kind, what, _ = reader.signs[reader.at - 1]
    # The holder is that of the STATEMENT itself only if no operation and no bracket is begun in it; the SIGN ahead
    # tells a name and an item from those in brackets.
    if reader.holders[-1] != ("do",):
        reader.refuse()
    if kind == "name":
        holder = ("set", what)
    elif (kind, what) == ("mark", "]") and reader.value[0] == "item":
        holder = ("setitem", reader.value[1], reader.value[2])
    else:
        reader.refuse()
    reader.at += 1
    reader.holders.pop()
    return reader.begin(holder)


def end_operations(reader, bind):
    """Ends the operations that bind as close as this or closer."""
    while reader.holders[-1][0] == "operator" and reader.holders[-1][1] >= bind:
        _, _, op, left = reader.holders.pop()
        reader.value = operation(op, left, reader.value)


def operation(op, left, right):
    """The EXPRESSION of an operation; left is None if it stands ahead of its only EXPRESSION."""
    if left is None:
        return ("one", op, right)
    if op in ("and", "or"):
        return ("both" if op == "and" else "either", left, right)
    return ("two", op, left, right)


def end_expression(reader):
    """Reads the SIGN that must stand behind the EXPRESSION that the last holder holds."""
    holder = reader.holders[-1]
    if holder[0] in ("call", "array"):
        return read_behind_listed(reader, holder)
    if holder[0] in ("paren", "item", "many", "len", "behind many"):
        return end_bracket(reader, holder)
    reader.holders.pop()
    if holder[0] in ("if", "while"):
        return reader.begin_block((holder[0], reader.value))
    reader.want_mark(";")
    return reader.end_statement((*holder, reader.value))


def read_behind_listed(reader, holder):
    """Reads the SIGN behind an EXPRESSION of several with , between each two."""
    listed = holder[-1]
    listed.append(reader.value)
    if reader.passes("mark", ","):
        return "expression"
    reader.want_mark(")" if holder[0] == "call" else "]")
    reader.holders.pop()
    return reader.end_operand((*holder[:-1], tuple(listed)))


def end_bracket(reader, holder):
    """Reads the SIGN behind an EXPRESSION in brackets of another one."""
    reader.holders.pop()
    if holder[0] == "many":
        reader.want_mark(",")
        return reader.begin(("behind many", reader.value))
    reader.want_mark("]" if holder[0] == "item" else ")")
    if holder[0] == "paren":
        return reader.end_operand(reader.value)
    if holder[0] == "item":
        return reader.end_operand(("item", holder[1], reader.value))
    if holder[0] == "len":
        return reader.end_operand(("length", reader.value))
    return reader.end_operand(("many", holder[1], reader.value))
