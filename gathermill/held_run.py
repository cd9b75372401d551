"""What a desk holds, and what its deeds make of it.

What is held is a tuple (program, limits, schedule, mill, turns): mill is one of a run of the PROGRAM with the LIMITS,
of which so many turns are done.
"""

from gathermill.checker import holds, table_of
from gathermill.codes import program_read
from gathermill.compiler import compiled_text
from gathermill.errors import CanNot, Unfit
from gathermill.images import mill_read
from gathermill.mill import go_on_by, mill_begun, mill_of, run_from
from gathermill.rooms import gathered
from gathermill.sights import sight


def first_held():
    """What a desk holds at first."""
    program = ((0, 0, 0, (("halt",),)),)
    return begin_held(program, (200, 40, 20), (1,))


def begin_held(program, limits, schedule):
    """What is held when a run begins."""
    return (program, limits, schedule, mill_begun(program, limits), 0)


def with_mill(held, mill, turns):
    """What is held with another MILL."""
    return (*held[:3], mill, turns)


def going_mill(held):
    """The MILL that is held, the run of which must go on."""
    if held[3][3] is not None:
        raise CanNot()
    return held[3]


def do_text(held, request):
    """Holds the compiled PROGRAM of a text."""
    return begin_held(compiled_text(request.whole_text()), held[1], held[2])


def do_codes(held, request):
    """Holds the PROGRAM of a text, which the checker must take."""
    program = program_read(request.whole_text())
    table_of(program)
    return begin_held(program, held[1], held[2])


def do_limits(held, request):
    """Holds other LIMITS."""
    room, nursery, deep = request.told_numbers()
    if nursery < 4 or deep < 1:
        raise Unfit()
    return begin_held(held[0], (room, nursery, deep), held[2])


def do_schedule(held, request):
    """Holds another SCHEDULE."""
    return (*held[:2], tuple(request.told_numbers()), *held[3:])


def do_turn(held, request):
    """Does turns."""
    program, limits, schedule, _, turns = held
    run = run_from(program, going_mill(held), limits)
    turns = go_on_by(run, schedule, turns, request.told_numbers()[0])
    return with_mill(held, mill_of(run), turns)


def do_whole(held, request):
    """Does a whole collection."""
    return with_mill(held, gathered(going_mill(held)), held[4])


def do_read(held, request):
    """Holds the MILL of an image, which must be one of the PROGRAM and the LIMITS."""
    program, limits, _, _, turns = held
    mill = mill_read(request.whole_text())
    if mill[1][:2] != limits[:2] or not holds(program, table_of(program), sight(mill)):
        raise Unfit()
    return with_mill(held, mill, turns)
