"""What INSTRUCTIONS do, if they can be done at all."""

from gathermill.errors import Fault
from gathermill.faults import is_faulty
from gathermill.objects import leads
from gathermill.running import fail, finish, go_to, put_guards, put_slot, settle, shown_value
from gathermill.values import kind_of, one_result, two_result

MOST_VALUES = 1000


def do_next(run):
    """Does the next INSTRUCTION of a run."""
    code, place = run.frames[-1][:2]
    instructions = run.program[code][3]
    if place >= len(instructions) or is_faulty(run, instructions[place]):
        raise Fault(code, place)
    action = ACTIONS[instructions[place][0]]
    action(run, run.frames[-1], instructions[place])


def do_constant(run, frame, instruction):
    """Pushes a CONSTANT."""
    settle(run, 0, (instruction[1],))


def do_load(run, frame, instruction):
    """Pushes what is in a slot."""
    settle(run, 0, (frame[2][instruction[1]],))


def do_store(run, frame, instruction):
    """Puts a VALUE into a slot."""
    put_slot(run, instruction[1], frame[3][-1])
    settle(run, 1, ())


def do_box(run, frame, instruction):
    """Puts the VALUE of a slot into a new CELL."""
    if not run.heap.has_room(run.frames, 2):
        fail(run, "room")
        return
    # Room may be made by moving OBJECTS, so what FRAMES hold is read behind that.
    value = run.frames[-1][2][instruction[1]]
    put_slot(run, instruction[1], run.heap.take_in(("cell", value)))
    settle(run, 0, ())


def do_open(run, frame, instruction):
    """Pushes the VALUE of the CELL in a slot."""
    settle(run, 0, (run.heap.fetch(frame[2][instruction[1]], 0),))


def do_fill(run, frame, instruction):
    """Puts a VALUE into the CELL in a slot."""
    run.heap.put(frame[2][instruction[1]], 0, frame[3][-1])
    settle(run, 1, ())


def do_up(run, frame, instruction):
    """Pushes the VALUE of a CELL of the FUNCTION."""
    cell = run.heap.fetch(frame[4], instruction[1])
    settle(run, 0, (run.heap.fetch(cell, 0),))


def do_upfill(run, frame, instruction):
    """Puts a VALUE into a CELL of the FUNCTION."""
    cell = run.heap.fetch(frame[4], instruction[1])
    run.heap.put(cell, 0, frame[3][-1])
    settle(run, 1, ())


def do_close(run, frame, instruction):
    """Pushes a new FUNCTION."""
    _, code, takes = instruction
    if not run.heap.has_room(run.frames, 1 + len(takes)):
        fail(run, "room")
        return
    _, _, slots, _, function, _ = run.frames[-1]
    cells = [slots[number] if how == "slot" else run.heap.fetch(function, number) for how, number in takes]
    settle(run, 0, (run.heap.take_in(("function", code, tuple(cells))),))


def do_call(run, frame, instruction):
    """Begins a FRAME of a FUNCTION."""
    many = instruction[1]
    stack = frame[3]
    function = stack[len(stack) - many - 1]
    head = head_of(run, function)
    if head[0] != "function":
        fail(run, "kind")
        return
    names, slots, _, _ = run.program[head[1]]
    if names != many:
        fail(run, "count")
    elif len(run.frames) >= run.deep:
        fail(run, "deep")
    else:
        settle(run, many + 1, ())
        first = stack[len(stack) - many:]
        run.frames.append((head[1], 0, (*first, *[()] * (slots - many)), (), function, ()))


def head_of(run, value):
    """The HEADER of the OBJECT to which a VALUE leads, one of no OBJECT if it leads to none."""
    return run.heap.head(value) if leads(value) else ("",)


def do_return(run, frame, instruction):
    """Leaves the running FRAME with a VALUE."""
    run.frames.pop()
    code, place, slots, stack, function, guards = run.frames[-1]
    run.frames[-1] = (code, place, slots, (*stack, frame[3][-1]), function, guards)


def do_pop(run, frame, instruction):
    """Takes a VALUE away."""
    settle(run, 1, ())


def do_jump(run, frame, instruction):
    """Goes on at a place."""
    go_to(run, instruction[1])


def do_unless(run, frame, instruction):
    """Goes on at a place if a truth is False."""
    top = frame[3][-1]
    if kind_of(top) != "truth":
        fail(run, "kind")
        return
    settle(run, 1, ())
    if not top:
        go_to(run, instruction[1])


def do_sure(run, frame, instruction):
    """Fails if the top is no truth."""
    if kind_of(frame[3][-1]) != "truth":
        fail(run, "kind")
    else:
        settle(run, 0, ())


def settle_result(run, off, told):
    """Pushes the result of the pair (True, result) for what goes off the stack, or fails by that of (False, lack)."""
    if told[0]:
        settle(run, off, (told[1],))
    else:
        fail(run, told[1])


def do_one(run, frame, instruction):
    """An operation on one VALUE."""
    settle_result(run, 1, one_result(instruction[1], frame[3][-1]))


def do_two(run, frame, instruction):
    """An operation on two VALUES."""
    settle_result(run, 2, two_result(instruction[1], frame[3][-2], frame[3][-1]))


def do_array(run, frame, instruction):
    """Pushes a new ARRAY of VALUES."""
    many = instruction[1]
    if not run.heap.has_room(run.frames, many + 1):
        fail(run, "room")
        return
    stack = run.frames[-1][3]
    settle(run, many, (run.heap.take_in(("array", stack[len(stack) - many:])),))


def do_many(run, frame, instruction):
    """Pushes a new ARRAY of so many times one VALUE."""
    many = frame[3][-2]
    if kind_of(many) != "number":
        fail(run, "kind")
    elif not 0 <= many <= MOST_VALUES:
        fail(run, "range")
    elif not run.heap.has_room(run.frames, many + 1):
        fail(run, "room")
    else:
        value = run.frames[-1][3][-1]
        settle(run, 2, (run.heap.take_in(("array", (value,) * many)),))


def lack_of_place(run, value, number):
    """What lacks if VALUE number of an ARRAY is asked for: "" if nothing does."""
    head = head_of(run, value)
    if head[0] != "array" or kind_of(number) != "number":
        return "kind"
    return "" if 0 <= number < head[1] else "place"


def do_item(run, frame, instruction):
    """Pushes the VALUE at a place of an ARRAY."""
    value, number = frame[3][-2:]
    lack = lack_of_place(run, value, number)
    if lack:
        fail(run, lack)
    else:
        settle(run, 2, (run.heap.fetch(value, number),))


def do_setitem(run, frame, instruction):
    """Puts a VALUE at a place of an ARRAY."""
    value, number, other = frame[3][-3:]
    lack = lack_of_place(run, value, number)
    if lack:
        fail(run, lack)
    else:
        run.heap.put(value, number, other)
        settle(run, 3, ())


def do_length(run, frame, instruction):
    """Pushes how many VALUES an ARRAY has."""
    head = head_of(run, frame[3][-1])
    if head[0] != "array":
        fail(run, "kind")
    else:
        settle(run, 1, (head[1],))


def do_show(run, frame, instruction):
    """Shows a VALUE."""
    run.shown = (*run.shown, shown_value(run, frame[3][-1]))
    settle(run, 1, ())


def do_fail(run, frame, instruction):
    """Fails by a VALUE."""
    fail(run, frame[3][-1])


def do_guard(run, frame, instruction):
    """Adds a GUARD."""
    put_guards(run, (*frame[5], (instruction[1], len(frame[3]))))
    settle(run, 0, ())


def do_unguard(run, frame, instruction):
    """Takes the last GUARD away."""
    put_guards(run, frame[5][:-1])
    settle(run, 0, ())


def do_halt(run, frame, instruction):
    """Ends the run."""
    finish(run, ("done",))


ACTIONS = {
    "constant": do_constant,
    "load": do_load,
    "store": do_store,
    "box": do_box,
    "open": do_open,
    "fill": do_fill,
    "up": do_up,
    "upfill": do_upfill,
    "close": do_close,
    "call": do_call,
    "return": do_return,
    "pop": do_pop,
    "jump": do_jump,
    "unless": do_unless,
    "sure": do_sure,
    "one": do_one,
    "two": do_two,
    "array": do_array,
    "many": do_many,
    "item": do_item,
    "setitem": do_setitem,
    "length": do_length,
    "show": do_show,
    "fail": do_fail,
    "guard": do_guard,
    "unguard": do_unguard,
    "halt": do_halt,
}
