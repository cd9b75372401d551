"""The mill: runs of PROGRAMS in a memory that is gathered while they run."""

from gathermill.doing import do_next
from gathermill.errors import Unfit
from gathermill.machine import begun
from gathermill.memory import memory_begun
from gathermill.mill_forms import ends_well, is_quadruple
from gathermill.mill_heap import MillHeap
from gathermill.objects import held_by, with_held
from gathermill.running import Run
from gathermill.soundness import has_parts, is_sound_for
from gathermill.store import Store, memory_of
from gathermill.tuples import frozen


def mill_begun(program, limits):
    """The MILL in which a run of a PROGRAM begins."""
    frames = begun(program)[0]
    return (frames, memory_begun(limits[0], limits[1]), (), None)


def run_from(program, mill, limits):
    """The Run of a PROGRAM, made of tuples, that goes on from a MILL."""
    frames, memory, shown, _ = mill
    return Run(program, list(frames), MillHeap(Store(memory)), shown, limits[2])


def begin_run(program, limits):
    """The Run of a PROGRAM, made of tuples, from its begin on."""
    return run_from(program, mill_begun(program, limits), limits)


def mill_of(run):
    """The MILL of a Run."""
    return (tuple(run.frames), memory_of(run.heap.store), run.shown, run.end)


def turn(run, steps):
    """Does a turn."""
    run.heap.gather(run.frames, steps)
    do_next(run)


def mill_stepped(program, mill, limits, steps):
    """The MILL behind a turn with so many steps."""
    mill = frozen(mill)
    if mill[3] is not None:
        raise Unfit()
    run = run_from(frozen(program), mill, limits)
    turn(run, steps)
    return mill_of(run)


def go_on_by(run, schedule, done, most):
    """Does at most so many turns, done of them being done before; tells how many are done then."""
    last = done + most
    while done < last and run.end is None:
        turn(run, schedule[done % len(schedule)])
        done += 1
    return done


def run_mill(program, limits, schedule, most):
    """The OUTCOME of a run, which goes on if it has not ended behind most turns."""
    run = begin_run(frozen(program), limits)
    go_on_by(run, schedule, 0, most)
    return (run.shown, ("going",) if run.end is None else run.end)


def mills_along(program, limits, schedule, most):
    """The list of the MILLS ahead of the first turn and behind each one, at most most."""
    run = begin_run(frozen(program), limits)
    mills = [mill_of(run)]
    done = 0
    while done < most and run.end is None:
        done = go_on_by(run, schedule, done, 1)
        mills.append(mill_of(run))
    return mills


def roots_of(frames):
    """The tuple of the roots that FRAMES hold."""
    return tuple(held_by(frozen(frames)))


def with_roots(frames, roots):
    """The tuple of FRAMES with other roots, as many."""
    frames = frozen(frames)
    roots = frozen(roots)
    if len(roots) != len(held_by(frames)):
        raise Unfit()
    return tuple(with_held(frames, roots))


def is_mill(thing):
    """Whether thing is a MILL."""
    if not is_quadruple(thing) or not ends_well(thing[0], thing[3]) or not has_parts(thing[1]):
        return False
    return is_sound_for(thing[1], held_by(thing[0]))
