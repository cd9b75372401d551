"""A run of a PROGRAM amid its INSTRUCTIONS, and how it goes on behind one."""

from gathermill.errors import Fault
from gathermill.objects import leads
from gathermill.values import showing


class Run:
    """How far a run is: FRAMES, a heap with the OBJECTS, what is shown, and the end, None as long as it goes on."""

    def __init__(self, program, frames, heap, shown, deep):
        self.program = program
        self.frames = frames
        self.heap = heap
        self.shown = shown
        self.deep = deep
        self.end = None


def settle(run, off, pushed):
    """The running FRAME goes on at the next place: so many VALUES go off its stack, then others are pushed."""
    code, place, slots, stack, function, guards = run.frames[-1]
    settled = (*stack[:len(stack) - off], *pushed)
    run.frames[-1] = (code, place + 1, slots, settled, function, guards)


def put_slot(run, slot, value):
    """Puts a VALUE into a slot of the running FRAME."""
    code, place, slots, stack, function, guards = run.frames[-1]
    run.frames[-1] = (code, place, (*slots[:slot], value, *slots[slot + 1:]), stack, function, guards)


def put_guards(run, guards):
    """The running FRAME has these GUARDS."""
    run.frames[-1] = (*run.frames[-1][:5], guards)


def go_to(run, place):
    """The running FRAME goes on at a place."""
    run.frames[-1] = (run.frames[-1][0], place, *run.frames[-1][2:])


def shown_value(run, value):
    """The showing of a VALUE."""
    if not leads(value):
        return showing(value, None, 0)
    item = run.heap.item(value)
    return showing(value, item, run.program[item[1]][0] if item[0] == "function" else 0)


def finish(run, end):
    """The run ends."""
    run.frames = []
    run.end = end


def fail(run, value):
    """The run fails by a VALUE: it goes on at the last GUARD of the uppermost FRAME that has one, or ends."""
    at = len(run.frames) - 1
    while at >= 0 and run.frames[at][5] == ():
        at -= 1
    if at < 0:
        finish(run, ("failed", shown_value(run, value)))
        return
    code, _, slots, stack, function, guards = run.frames[at]
    place, height = guards[-1]
    if height > len(stack):
        # The INSTRUCTION that fails is that of the running FRAME, wherever the GUARD is.
        raise Fault(run.frames[-1][0], run.frames[-1][1])
    run.frames = [*run.frames[:at], (code, place, slots, (*stack[:height], value), function, guards[:-1])]
