"""A run by the meaning of a TREE: what is still to be done, and the ways to leave it.

An environment is None or a triple (NAME, CELL, environment around it). A task is one of these:
("begin", part, environment): the part is begun;
("end", part, environment, many): as many EXPRESSIONS in the part have come to VALUES, which are the last results;
("sure",): the last result must be a truth;
("block", block, place, environment): the STATEMENTS of the BLOCK from this place on;
("call",): the end of a call, to which a return leads;
("while", part, environment): the end of a while's BLOCK, to which a break leads;
("try", name, block, environment, height): the end of a try's first BLOCK, to which fails lead; height tells how many
results belong to what is around it.
"""

from gathermill.values import kind_of, showing


class Cell:
    """The place of a VALUE that a NAME means."""

    def __init__(self, value):
        self.value = value


class Run:
    """How far a run is: objects are ("array", list of VALUES) and ("function", names, block, environment)."""

    def __init__(self, most):
        self.most = most
        self.steps = 0
        self.tasks = []
        self.results = []
        self.objects = []
        self.shown = []
        self.end = None


def cell_of(environment, name):
    """The CELL of the variable that a NAME means in an environment."""
    while environment[0] != name:
        environment = environment[2]
    return environment[1]


def with_variable(environment, name, value):
    """An environment with one more variable, in a new CELL."""
    return (name, Cell(value), environment)


def new_object(run, item):
    """A REFERENCE to a new object."""
    run.objects.append(item)
    return ("@", len(run.objects) - 1)


def object_of(run, value, word):
    """The object to which a VALUE refers, if it is one of this word; else None."""
    if kind_of(value) != "reference":
        return None
    item = run.objects[value[1]]
    return item if item[0] == word else None


def shown_value(run, value):
    """The showing of a VALUE."""
    if kind_of(value) != "reference":
        return showing(value, None, 0)
    item = run.objects[value[1]]
    return showing(value, item, len(item[1]))


def set_rest(run, environment):
    """The BLOCK whose STATEMENT is being done goes on in this environment."""
    word, block, place, _ = run.tasks.pop()
    run.tasks.append((word, block, place, environment))


def leave(run, word):
    """Leaves all that is begun up to the innermost task of this word, and that; tells it, None if there is none."""
    while run.tasks:
        task = run.tasks.pop()
        if task[0] == word:
            return task
    return None


def fail(run, value):
    """The run fails by a VALUE, which is caught or ends it."""
    task = leave(run, "try")
    if task is None:
        run.end = ("failed", shown_value(run, value))
    else:
        _, name, block, environment, height = task
        del run.results[height:]
        run.tasks.append(("block", block, 0, with_variable(environment, name, value)))


def settle(run, told):
    """Takes the pair (True, result) for the VALUE of an EXPRESSION, fails by the pair (False, lack)."""
    if told[0]:
        run.results.append(told[1])
    else:
        fail(run, told[1])
