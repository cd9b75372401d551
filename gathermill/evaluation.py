"""What EXPRESSIONS and STATEMENTS do in a run by the meaning of a TREE."""

from gathermill.forms import inner_parts
from gathermill.runs import (
    Run, cell_of, fail, leave, new_object, object_of, set_rest, settle, shown_value, with_variable,
)
from gathermill.values import kind_of, one_result, two_result

MOST_VALUES = 1000


def run_of(tree, most):
    """The run of a TREE, made of tuples, up to its end or to the step behind most steps."""
    run = Run(most)
    run.tasks.append(("block", tree, 0, None))
    while run.end is None:
        if run.tasks:
            do_task(run, run.tasks.pop())
        else:
            run.end = ("done",)
    return run


def do_task(run, task):
    """Does a task, which is none of the others any more."""
    word = task[0]
    if word == "begin":
        begin(run, task[1], task[2])
    elif word == "end":
        end(run, task[1], task[2], task[3])
    elif word == "sure":
        be_sure(run)
    elif word == "block":
        go_on(run, task[1], task[2], task[3])
    elif word == "call":
        run.results.append(None)
    elif word == "while":
        begin_inner(run, task[1], task[2], (task[1][1],))


def go_on(run, block, place, environment):
    """Begins the STATEMENT at this place of a BLOCK, if there is one."""
    if place < len(block):
        run.tasks.append(("block", block, place + 1, environment))
        run.tasks.append(("begin", block[place], environment))


def begin(run, part, environment):
    """Begins a part: a step."""
    if run.steps == run.most:
        run.end = ("going",)
        return
    run.steps += 1
    word = part[0]
    if word == "constant":
        run.results.append(part[1])
    elif word == "name":
        run.results.append(cell_of(environment, part[1]).value)
    elif word == "function":
        run.results.append(new_object(run, ("function", part[1], part[2], environment)))
    elif word == "let":
        begin_let(run, part, environment)
    elif word == "break":
        leave(run, "while")
    elif word == "try":
        run.tasks.append(("try", part[2], part[3], environment, len(run.results)))
        run.tasks.append(("block", part[1], 0, environment))
    elif word in ("both", "either", "if", "while"):
        begin_inner(run, part, environment, (part[1],))
    else:
        begin_inner(run, part, environment, inner_parts(part))


def begin_inner(run, part, environment, inner):
    """Some EXPRESSIONS in a part come next, one behind the other, then the part itself goes on."""
    run.tasks.append(("end", part, environment, len(inner)))
    run.tasks.extend([("begin", expression, environment) for expression in inner[::-1]])


def begin_let(run, part, environment):
    """Begins a let: the CELL of a function is made ahead, and the function can mean itself."""
    inside = environment
    if part[2][0] == "function":
        inside = with_variable(environment, part[1], None)
        set_rest(run, inside)
    begin_inner(run, part, inside, (part[2],))


def end(run, part, environment, many):
    """Goes on with a part when EXPRESSIONS in it have come to VALUES."""
    behind = len(run.results) - many
    values = run.results[behind:]
    del run.results[behind:]
    if part[0] in ("let", "set", "if", "while", "both", "either"):
        action = ENDS_INSIDE[part[0]]
        action(run, part, environment, values[0])
    else:
        action = ENDS[part[0]]
        action(run, part, values)


def end_let(run, part, environment, value):
    """A new variable is there behind the STATEMENT."""
    if part[2][0] == "function":
        end_set(run, part, environment, value)
    else:
        set_rest(run, with_variable(environment, part[1], value))


def end_set(run, part, environment, value):
    """A variable gets a VALUE."""
    cell = cell_of(environment, part[1])
    cell.value = value


def end_if(run, part, environment, value):
    """One of two BLOCKS comes next."""
    if kind_of(value) != "truth":
        fail(run, "kind")
    else:
        run.tasks.append(("block", part[2] if value else part[3], 0, environment))


def end_while(run, part, environment, value):
    """The BLOCK comes next, or the while ends."""
    if kind_of(value) != "truth":
        fail(run, "kind")
    elif value:
        run.tasks.append(("while", part, environment))
        run.tasks.append(("block", part[2], 0, environment))


def end_first(run, part, environment, value):
    """The first part of a both or an either tells its VALUE, or leaves it to the second one."""
    if kind_of(value) != "truth":
        fail(run, "kind")
    elif value == (part[0] == "either"):
        run.results.append(value)
    else:
        run.tasks.append(("sure",))
        run.tasks.append(("begin", part[2], environment))


def be_sure(run):
    """Fails if the last result is no truth."""
    if kind_of(run.results[-1]) != "truth":
        fail(run, "kind")


def end_call(run, part, values):
    """The BLOCK of a FUNCTION comes next."""
    item = object_of(run, values[0], "function")
    if item is None:
        fail(run, "kind")
        return
    _, names, block, environment = item
    if len(names) != len(values) - 1:
        fail(run, "count")
        return
    for name, value in zip(names, values[1:]):
        environment = with_variable(environment, name, value)
    run.tasks.append(("call",))
    run.tasks.append(("block", block, 0, environment))


def end_array(run, part, values):
    """A new ARRAY of these VALUES."""
    run.results.append(new_object(run, ("array", values)))


def end_many(run, part, values):
    """A new ARRAY of so many times one VALUE."""
    many, value = values
    if kind_of(many) != "number":
        fail(run, "kind")
    elif not 0 <= many <= MOST_VALUES:
        fail(run, "range")
    else:
        run.results.append(new_object(run, ("array", [value] * many)))


def place_told(run, value, place):
    """The pair (True, list of VALUES) of the ARRAY that has this place, or (False, lack)."""
    item = object_of(run, value, "array")
    if item is None or kind_of(place) != "number":
        return (False, "kind")
    return (True, item[1]) if 0 <= place < len(item[1]) else (False, "place")


def end_item(run, part, values):
    """The VALUE at a place of an ARRAY."""
    found, told = place_told(run, values[0], values[1])
    settle(run, (True, told[values[1]]) if found else (False, told))


def end_setitem(run, part, values):
    """A VALUE at a place of an ARRAY."""
    found, told = place_told(run, values[0], values[1])
    if found:
        told[values[1]] = values[2]
    else:
        fail(run, told)


def end_length(run, part, values):
    """How many VALUES an ARRAY has."""
    item = object_of(run, values[0], "array")
    settle(run, (False, "kind") if item is None else (True, len(item[1])))


def end_one(run, part, values):
    """The result of an operation on one VALUE."""
    settle(run, one_result(part[1], values[0]))


def end_two(run, part, values):
    """The result of an operation on two VALUES."""
    settle(run, two_result(part[1], values[0], values[1]))


def end_show(run, part, values):
    """A VALUE is shown."""
    run.shown.append(shown_value(run, values[0]))


def end_fail(run, part, values):
    """The run fails."""
    fail(run, values[0])


def end_return(run, part, values):
    """The call is left with a VALUE."""
    leave(run, "call")
    run.results.append(values[0])


def end_do(run, part, values):
    """Nothing more is done."""


ENDS_INSIDE = {
    "let": end_let,
    "set": end_set,
    "if": end_if,
    "while": end_while,
    "both": end_first,
    "either": end_first,
}
ENDS = {
    "call": end_call,
    "array": end_array,
    "many": end_many,
    "item": end_item,
    "setitem": end_setitem,
    "length": end_length,
    "one": end_one,
    "two": end_two,
    "show": end_show,
    "fail": end_fail,
    "return": end_return,
    "do": end_do,
}
