"""What the NAMES of a TREE mean: one walk through the TREE in text order."""

from gathermill.errors import Misplaced, NoName, Twice
from gathermill.forms import inner_parts


class Scopes:
    """What is found in a walk, and where the walk is.

    variables: for each VARIABLE the pair (NAME, CODE).
    uses: for each NAME that is read or set the number of the VARIABLE that it means.
    tells: for each part, in text order, the VARIABLE that begins there or is used, the CODE of a function, or None.
    codes: for each part, in text order, the CODE in which it stands.
    takes: for each CODE how many NAMES it takes; firsts: the VARIABLE that would be the first of them.
    outer: for each CODE the one in which its function stands; None for the main one.
    cells: for each CODE the VARIABLES of its CELLS.
    captured: a dict with the VARIABLES that are captured.
    there: the pairs (NAME, VARIABLE) that are there, the one that began last at the end.
    blocks: the BLOCKS in which the walk is, the innermost last.
    tasks: what is still to be done, the next one last.
    """

    def __init__(self):
        self.variables = []
        self.uses = []
        self.tells = []
        self.codes = []
        self.takes = []
        self.firsts = []
        self.outer = []
        self.cells = []
        self.captured = {}
        self.there = []
        self.blocks = []
        self.tasks = []


class Block:
    """A BLOCK in which a walk is: its CODE, whether a break may stand in it, and what it began with."""

    def __init__(self, code, breaks, behind):
        self.code = code
        self.breaks = breaks
        self.behind = behind
        self.taken = {}


def scopes_of(tree):
    """The Scopes of a TREE, which is made of tuples."""
    scopes = Scopes()
    begin_code(scopes, None, (), tree)
    while scopes.tasks:
        task = scopes.tasks.pop()
        if task[0] == "part":
            walk_part(scopes, task[1])
        elif task[0] == "there":
            scopes.there.append(task[1:])
        elif task[0] == "block":
            begin_block(scopes, task[1], task[2])
        elif task[0] == "catch":
            begin_catch(scopes, task[1], task[2], task[3])
        else:
            behind = scopes.blocks.pop().behind
            del scopes.there[behind:]
    return scopes


def begin_code(scopes, outer, names, block):
    """Goes into the BLOCK of a function, or the TREE."""
    code = len(scopes.outer)
    scopes.outer.append(outer)
    scopes.takes.append(len(names))
    scopes.firsts.append(len(scopes.variables))
    scopes.cells.append([])
    enter(scopes, Block(code, False, len(scopes.there)), block)
    for name in names:
        begin_name(scopes, name)


def begin_block(scopes, block, in_while):
    """Goes into a BLOCK of an if, a while, or the first one of a try."""
    around = scopes.blocks[-1]
    enter(scopes, Block(around.code, around.breaks or in_while, len(scopes.there)), block)


def begin_catch(scopes, index, name, block):
    """Goes into the BLOCK behind a catch; index is that of the try among the parts."""
    begin_block(scopes, block, False)
    scopes.tells[index] = len(scopes.variables)
    begin_name(scopes, name)


def enter(scopes, inside, block):
    """Goes into a BLOCK: what stands in it comes next, then the walk leaves it."""
    scopes.blocks.append(inside)
    scopes.tasks.append(("leave",))
    scopes.tasks.extend([("part", statement) for statement in block[::-1]])


def begin_variable(scopes, name):
    """A VARIABLE begins; its number is told."""
    scopes.variables.append((name, scopes.blocks[-1].code))
    return len(scopes.variables) - 1


def begin_name(scopes, name):
    """A VARIABLE begins with the BLOCK, where no let may take its NAME."""
    scopes.there.append((name, begin_variable(scopes, name)))
    scopes.blocks[-1].taken[name] = True


def walk_part(scopes, part):
    """Does what a part asks for, and puts what lies in it ahead of all other tasks."""
    index = len(scopes.tells)
    scopes.tells.append(None)
    scopes.codes.append(scopes.blocks[-1].code)
    word = part[0]
    if word == "name":
        scopes.tells[index] = use(scopes, part[1])
    elif word == "set":
        scopes.tells[index] = use(scopes, part[1])
        scopes.tasks.append(("part", part[2]))
    elif word == "let":
        scopes.tells[index] = walk_let(scopes, part[1], part[2])
    elif word == "function":
        scopes.tells[index] = len(scopes.outer)
        begin_code(scopes, scopes.blocks[-1].code, part[1], part[2])
    elif word == "if":
        scopes.tasks.extend([("block", part[3], False), ("block", part[2], False), ("part", part[1])])
    elif word == "while":
        scopes.tasks.extend([("block", part[2], True), ("part", part[1])])
    elif word == "try":
        scopes.tasks.extend([("catch", index, part[2], part[3]), ("block", part[1], False)])
    else:
        check_place(scopes, word)
        scopes.tasks.extend([("part", inner) for inner in inner_parts(part)[::-1]])


def walk_let(scopes, name, part):
    """Begins the VARIABLE of a let, part being its EXPRESSION; its number is told."""
    taken = scopes.blocks[-1].taken
    if name in taken:
        raise Twice(name)
    taken[name] = True
    variable = begin_variable(scopes, name)
    there = ("there", name, variable)
    # In a function the variable is there already, so that the function can mean itself.
    if part[0] == "function":
        scopes.tasks.extend([("part", part), there])
    else:
        scopes.tasks.extend([there, ("part", part)])
    return variable


def use(scopes, name):
    """The VARIABLE that a NAME means which is read or set here."""
    variable = meant(scopes, name)
    scopes.uses.append(variable)
    own = scopes.variables[variable][1]
    code = scopes.blocks[-1].code
    if code != own:
        scopes.captured[variable] = True
    while code != own:
        if variable not in scopes.cells[code]:
            scopes.cells[code].append(variable)
        code = scopes.outer[code]
    return variable


def meant(scopes, name):
    """The VARIABLE of this NAME that is there and began last."""
    for known, variable in scopes.there[::-1]:
        if known == name:
            return variable
    raise NoName(name)


def check_place(scopes, word):
    """Whether a break or a return may stand here."""
    inside = scopes.blocks[-1]
    if word == "break" and not inside.breaks:
        raise Misplaced(word)
    if word == "return" and inside.code == 0:
        raise Misplaced(word)
