"""The checker: which PROGRAMS it takes, what lies where in them, and why it refuses others."""

from gathermill.bars import bar_of, is_bar_of, sheets_of_path
from gathermill.codes import is_program
from gathermill.errors import CanNot, Refused, Unfit
from gathermill.sheets import first_sheet, is_sheet, lacks, sheets_on
from gathermill.states import holds_all
from gathermill.tuples import frozen
from gathermill.walks import kinds_of_walk, lacking_places, walk_of


def program_of(program):
    """The PROGRAM, made of tuples."""
    program = frozen(program)
    if not is_program(program):
        raise Unfit()
    return program


def table_of(program):
    """The least TABLE of a PROGRAM."""
    program = program_of(program)
    return tuple([rows_of(program, code) for code in range(len(program))])


def rows_of(program, code):
    """The least tuple of SHEETS of a CODE."""
    walk = walk_of(program, code)
    if walk.bad is not None:
        raise Refused(code, walk.bad)
    kinds = kinds_of_walk(program, code, walk)
    lacking = lacking_places(program, code, kinds)
    if lacking:
        raise Refused(code, lacking[0])
    rows = []
    for place in range(len(program[code][3])):
        rows.append((kinds[place], *walk.shapes[place]) if place in kinds else None)
    return tuple(rows)


def is_taken(program):
    """Whether a PROGRAM has a TABLE."""
    try:
        table_of(program)
    except Refused:
        return False
    return True


def is_table(program, thing):
    """Whether thing is a TABLE of a PROGRAM."""
    program = program_of(program)
    if not isinstance(thing, tuple) or len(thing) != len(program):
        return False
    return all([are_rows(program, code, rows) for code, rows in enumerate(thing)])


def are_rows(program, code, rows):
    """Whether rows are the SHEETS of a CODE in some TABLE."""
    _, slots, _, instructions = program[code]
    if not isinstance(rows, tuple) or len(rows) != len(instructions):
        return False
    if not all([row is None or is_sheet(row, slots) for row in rows]):
        return False
    if not is_told_by(rows, 0, first_sheet(program[code])):
        return False
    return all([row is None or goes_on_well(program, code, rows, place) for place, row in enumerate(rows)])


def goes_on_well(program, code, rows, place):
    """Whether an INSTRUCTION with a SHEET lacks nothing and leads to what rows tell."""
    if lacks(program, code, place, rows[place]):
        return False
    ways = sheets_on(program[code][3][place], place, rows[place])
    return all([is_told_by(rows, other, sheet) for other, _, sheet in ways])


def is_told_by(rows, place, sheet):
    """Whether a SHEET that comes to a place is like that of the place, which may have "none" for any kind."""
    if place >= len(rows) or rows[place] is None:
        return False
    kinds, height, guards = rows[place]
    if height != sheet[1] or guards != sheet[2]:
        return False
    return all([kind in ("none", own) for kind, own in zip(kinds, sheet[0])])


def bar(program):
    """A BAR of a PROGRAM."""
    program = program_of(program)
    for code in range(len(program)):
        found = bar_of(program, code)
        if found is not None:
            return found
    raise CanNot()


def is_bar(program, thing):
    """Whether thing is a BAR of a PROGRAM."""
    return is_bar_of(program_of(program), thing)


def sheet_along(program, code, path):
    """The SHEET that comes at the end of a PATH."""
    sheets = sheets_of_path(program_of(program), code, frozen(path))
    if sheets is None:
        raise Unfit()
    return sheets[-1]


def tallest(program):
    """The tuple with the greatest height in the least TABLE for each CODE."""
    return tuple([max([row[1] for row in rows if row is not None]) for rows in table_of(program)])


def holds(program, table, state):
    """Whether a TABLE tells what is in a STATE."""
    program = program_of(program)
    table = frozen(table)
    if not is_table(program, table):
        raise Unfit()
    return holds_all(program, table, frozen(state))
