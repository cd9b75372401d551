"""The INSTRUCTIONS of a CODE, written part by part.

A task is one of these:
("emit", instruction): the INSTRUCTION stands at the next place;
("tell", word, mark): a jump, an unless or a guard that tells the place of a mark;
("mark", mark): the next place is that of the mark;
("expression", part): the INSTRUCTIONS of an EXPRESSION;
("statement", part, leave, guards): those of a STATEMENT; leave is the mark behind the innermost while, guards how many
GUARDS a break to it takes away.
Parts are those of the PLAN.
"""

from gathermill.instructions import TELLING


class Emission:
    """The INSTRUCTIONS that are written, in which jumps, unlesses and guards tell marks.

    places: for each mark its place, None as long as this is not known.
    firsts: the places at which STATEMENTS begin.
    """

    def __init__(self):
        self.instructions = []
        self.places = []
        self.firsts = []
        self.tasks = []

    def new_mark(self):
        """A mark without a place."""
        self.places.append(None)
        return len(self.places) - 1

    def emit(self, instruction):
        """Puts an INSTRUCTION at the next place."""
        self.instructions.append(instruction)


def emission_of(section, is_main):
    """The Emission of the CODE of a SECTION."""
    emission = Emission()
    _, _, _, boxed, block = section
    boxing = [("emit", ("box", slot)) for slot in boxed]
    last = [("emit", ("halt",))] if is_main else [("emit", ("constant", None)), ("emit", ("return",))]
    tasks = [*boxing, *block_tasks(block, None, 0), *last]
    emission.tasks.extend(tasks[::-1])
    while emission.tasks:
        do_task(emission, emission.tasks.pop())
    return emission


def told_instructions(emission):
    """The tuple of the INSTRUCTIONS of an Emission, places in the stead of marks."""
    told = []
    for instruction in emission.instructions:
        if instruction[0] in TELLING:
            told.append((instruction[0], emission.places[instruction[1]]))
        else:
            told.append(instruction)
    return tuple(told)


def do_task(emission, task):
    """Does a task, or puts others in its stead."""
    word = task[0]
    if word == "emit":
        emission.emit(task[1])
    elif word == "tell":
        emission.emit((task[1], task[2]))
    elif word == "mark":
        emission.places[task[1]] = len(emission.instructions)
    elif word == "expression":
        emission.tasks.extend(expression_tasks(emission, task[1])[::-1])
    else:
        emission.firsts.append(len(emission.instructions))
        emission.tasks.extend(statement_tasks(emission, task[1], task[2], task[3])[::-1])


def block_tasks(block, leave, guards):
    """The tasks of a BLOCK."""
    return [("statement", part, leave, guards) for part in block]


def row_tasks(parts, instruction):
    """The tasks of EXPRESSIONS, one behind the other, and of an INSTRUCTION behind them."""
    return [*[("expression", part) for part in parts], ("emit", instruction)]


def expression_tasks(emission, part):
    """The tasks of an EXPRESSION."""
    word = part[0]
    if word == "function":
        return [("emit", ("close", part[1], part[2]))]
    if word == "call":
        return row_tasks((part[1], *part[2]), ("call", len(part[2])))
    if word == "array":
        return row_tasks(part[1], ("array", len(part[1])))
    if word in ("many", "item", "length"):
        return row_tasks(part[1:], (word,))
    if word in ("one", "two"):
        return row_tasks(part[2:], (word, part[1]))
    if word == "both":
        return both_tasks(emission, part)
    if word == "either":
        return either_tasks(emission, part)
    return [("emit", part)]


def both_tasks(emission, part):
    """The tasks of e and f."""
    otherwise = emission.new_mark()
    behind = emission.new_mark()
    return [
        ("expression", part[1]), ("tell", "unless", otherwise), ("expression", part[2]), ("emit", ("sure",)),
        ("tell", "jump", behind), ("mark", otherwise), ("emit", ("constant", False)), ("mark", behind),
    ]


def either_tasks(emission, part):
    """The tasks of e or f."""
    otherwise = emission.new_mark()
    behind = emission.new_mark()
    return [
        ("expression", part[1]), ("tell", "unless", otherwise), ("emit", ("constant", True)),
        ("tell", "jump", behind), ("mark", otherwise), ("expression", part[2]), ("emit", ("sure",)), ("mark", behind),
    ]


def statement_tasks(emission, part, leave, guards):
    """The tasks of a STATEMENT."""
    word = part[0]
    if word == "let":
        return let_tasks(part[1], part[2], part[3])
    if word == "set":
        return row_tasks((part[3],), (part[1], part[2]))
    if word in ("setitem", "show", "fail", "return"):
        return row_tasks(part[1:], (word,))
    if word == "do":
        return row_tasks((part[1],), ("pop",))
    if word == "if":
        return if_tasks(emission, part, leave, guards)
    if word == "while":
        return while_tasks(emission, part)
    if word == "try":
        return try_tasks(emission, part, leave, guards)
    return [*[("emit", ("unguard",)) for _ in range(guards)], ("tell", "jump", leave)]


def let_tasks(word, slot, expression):
    """The tasks of a let: the CELL of a function is made ahead of it, so that the function can take it."""
    if word == "store":
        return row_tasks((expression,), ("store", slot))
    boxing = [("emit", ("store", slot)), ("emit", ("box", slot))]
    if expression[0] == "function":
        return [("emit", ("constant", None)), *boxing, *row_tasks((expression,), ("fill", slot))]
    return [("expression", expression), *boxing]


def if_tasks(emission, part, leave, guards):
    """The tasks of an if."""
    otherwise = emission.new_mark()
    behind = emission.new_mark()
    return [
        ("expression", part[1]), ("tell", "unless", otherwise), *block_tasks(part[2], leave, guards),
        ("tell", "jump", behind), ("mark", otherwise), *block_tasks(part[3], leave, guards), ("mark", behind),
    ]


def while_tasks(emission, part):
    """The tasks of a while."""
    again = emission.new_mark()
    behind = emission.new_mark()
    return [
        ("mark", again), ("expression", part[1]), ("tell", "unless", behind), *block_tasks(part[2], behind, 0),
        ("tell", "jump", again), ("mark", behind),
    ]


def try_tasks(emission, part, leave, guards):
    """The tasks of a try."""
    _, block, word, slot, other = part
    caught = emission.new_mark()
    behind = emission.new_mark()
    boxing = [("emit", ("box", slot))] if word == "box" else []
    return [
        ("tell", "guard", caught), *block_tasks(block, leave, guards + 1), ("emit", ("unguard",)),
        ("tell", "jump", behind), ("mark", caught), ("emit", ("store", slot)), *boxing,
        *block_tasks(other, leave, guards), ("mark", behind),
    ]
