"""The plain machine: runs of PROGRAMS on a heap without end, in which what is live may have so many words."""

from gathermill.doing import do_next
from gathermill.errors import Unfit
from gathermill.heap import Heap, live_words_of
from gathermill.objects import come_to, renumbered, renumbered_frames
from gathermill.running import Run
from gathermill.tuples import frozen


def begun(program):
    """The STATE in which a run of a PROGRAM begins."""
    return (((0, 0, ((),) * program[0][1], (), None, ()),), (), (), None)


def run_from(program, state, limits):
    """The Run of a PROGRAM, made of tuples, that goes on from a STATE."""
    frames, objects, shown, _ = state
    room, _, deep = limits
    return Run(program, list(frames), Heap(objects, room), shown, deep)


def state_of(run):
    """The STATE of a Run."""
    return (tuple(run.frames), run.heap.objects, run.shown, run.end)


def stepped(program, state, limits):
    """The STATE behind one INSTRUCTION."""
    state = frozen(state)
    if state[3] is not None:
        raise Unfit()
    run = run_from(frozen(program), state, limits)
    do_next(run)
    return state_of(run)


def run_plain(program, limits, most):
    """The OUTCOME of a run, which goes on if it has not ended behind most INSTRUCTIONS."""
    program = frozen(program)
    run = run_from(program, begun(program), limits)
    done = 0
    while done < most and run.end is None:
        do_next(run)
        done += 1
    return (run.shown, ("going",) if run.end is None else run.end)


def states_along(program, limits, most):
    """The list of the STATES of a run, the first one and that behind each INSTRUCTION, at most most."""
    program = frozen(program)
    run = run_from(program, begun(program), limits)
    states = [state_of(run)]
    while len(states) <= most and run.end is None:
        do_next(run)
        states.append(state_of(run))
    return states


def live(state):
    """The set of the places of the live OBJECTS."""
    frames, objects, _, _ = frozen(state)
    return tuple(sorted(come_to(frames, objects)))


def live_words(state):
    """How many words the live OBJECTS have."""
    frames, objects, _, _ = frozen(state)
    return live_words_of(frames, objects)


def canon(state):
    """The STATE with its live OBJECTS alone, numbered as they are first come to."""
    frames, objects, shown, end = frozen(state)
    numbers = come_to(frames, objects)
    lived = [renumbered(objects[number], numbers) for number in list(numbers)]
    return (renumbered_frames(frames, numbers), tuple(lived), shown, end)
