"""Rooms: how much room a run needs, and how much of the room of a mill is not of use any more."""

from gathermill.checker import is_taken
from gathermill.doing import do_next
from gathermill.errors import Unfit
from gathermill.free_heap import FreeHeap
from gathermill.machine import begun
from gathermill.major import whole
from gathermill.memory import used_words
from gathermill.mill import begin_run, go_on_by, roots_of, with_roots
from gathermill.running import Run
from gathermill.seeing import Seen, seen_in
from gathermill.tuples import frozen


def tabled(program):
    """The PROGRAM, made of tuples, which must have a TABLE."""
    program = frozen(program)
    if not is_taken(program):
        raise Unfit()
    return program


def free_run(program, deep):
    """The Run of a PROGRAM with room without end."""
    return Run(program, list(begun(program)[0]), FreeHeap(), (), deep)


def needs_until(program, deep, most, room):
    """The list of the pairs (k, need) of the free run up to the first need above room, which may be None."""
    run = free_run(program, deep)
    found = []
    done = 0
    while done < most and run.end is None and (room is None or not found or found[-1][1] <= room):
        do_next(run)
        if len(run.heap.needs) > len(found):
            found.append((done, run.heap.needs[-1]))
        done += 1
    return found


def needs(program, deep, most):
    """The list of the pairs (k, need) of those INSTRUCTIONS of the free run that make a new OBJECT."""
    return needs_until(tabled(program), deep, most, None)


def least_room(program, deep, most):
    """The greatest need."""
    return max([need for _, need in needs(program, deep, most)], default=0)


def peak(program, deep, most):
    """The greatest number of live words of a STATE of the free run."""
    run = free_run(tabled(program), deep)
    greatest = 0
    done = 0
    while done < most and run.end is None:
        made = len(run.heap.needs)
        do_next(run)
        # Nothing but a new OBJECT makes live words more.
        if len(run.heap.needs) > made:
            greatest = max(greatest, run.heap.live_words(run.frames))
        done += 1
    return greatest


def first_refused(program, room, deep, most):
    """The number of the first INSTRUCTION of the free run with a need above room; None if there is none."""
    found = needs_until(tabled(program), deep, most, room)
    return found[-1][0] if found and found[-1][1] > room else None


def lacks_at(program, deep, most):
    """The list of the triples (least, last, k): with each room from least to last INSTRUCTION k is refused first."""
    told = []
    enough = 0
    for done, need in needs(program, deep, most):
        if need > enough:
            told.append((enough, need - 1, done))
            enough = need
    return told


def floating(mill):
    """How many used words of a MILL are not those of live OBJECTS."""
    return used_words(mill[1]) - live_in(mill)


def live_in(mill):
    """How many words the live OBJECTS of a MILL have."""
    return seen_in(frozen(mill)).many_words()


def gathered(mill):
    """The MILL behind a whole collection."""
    frames, memory, shown, end = frozen(mill)
    memory, roots = whole(memory, roots_of(frames))
    return (with_roots(frames, roots), memory, shown, end)


def floating_along(program, limits, schedule, most):
    """The list of the floating words of the MILLS along a run, as long as it goes on."""
    run = begin_run(tabled(program), limits)
    told = [0]
    done = 0
    while done < most and run.end is None:
        done = go_on_by(run, schedule, done, 1)
        if run.end is None:
            store = run.heap.store
            told.append(store.used() - Seen(run.frames, store.words).many_words())
    return told
