"""Sections 10 to 14 of the document written down once more, in the plainest way, to compare the package with."""

from gathermill.names import plan_of
from gathermill.values import is_constant, kind_of, one_result, two_result

EFFECTS = {}
for words, effect in (
    ("constant load open up close", (0, 1)), ("store fill upfill pop unless show return fail", (1, 0)),
    ("box jump guard unguard halt", (0, 0)), ("sure one length", (1, 1)), ("two many item", (2, 1)), ("setitem", (3, 0)),
):
    EFFECTS.update(dict.fromkeys(words.split(), effect))
LACKING = "box close array many one two item setitem length unless sure call fail".split()


def effect(instruction):
    word = instruction[0]
    if word in ("call", "array"):
        return (instruction[1] + (word == "call"), 1)
    return EFFECTS[word]


def next_ones(instruction, place):
    word = instruction[0]
    told = {"jump": instruction[1:], "unless": (*instruction[1:], place + 1), "return": (), "fail": (), "halt": ()}
    return sorted(set(told.get(word, (place + 1,))))


# Section 11: lengths do not depend on places, so a break's place is known once its while is written with any place.

def expression(part, base):
    word = part[0]
    if word == "function":
        return [("close", part[1], part[2])]
    if word in ("both", "either"):
        first = expression(part[1], base)
        at = base + len(first) + 1
        if word == "both":
            second = expression(part[2], at)
            otherwise = at + len(second) + 2
            return [*first, ("unless", otherwise), *second, ("sure",), ("jump", otherwise + 1), ("constant", False)]
        second = expression(part[2], at + 2)
        return [*first, ("unless", at + 2), ("constant", True), ("jump", at + 3 + len(second)), *second, ("sure",)]
    inner = {"call": lambda: (part[1], *part[2]), "array": lambda: part[1], "many": lambda: part[1:],
             "item": lambda: part[1:], "length": lambda: part[1:], "one": lambda: part[2:], "two": lambda: part[2:]}
    if word not in inner:
        return [part]
    made = row(inner[word](), base)
    end = {"call": lambda: (word, len(part[2])), "array": lambda: (word, len(part[1])), "one": lambda: part[:2],
           "two": lambda: part[:2]}
    return [*made, end.get(word, lambda: (word,))()]


def row(parts, base):
    made = []
    for part in parts:
        made.extend(expression(part, base + len(made)))
    return made


def block(parts, base, leave, guards, begins):
    made = []
    for part in parts:
        begins.append(base + len(made))
        made.extend(statement(part, base + len(made), leave, guards, begins))
    return made


def statement(part, base, leave, guards, begins):
    word = part[0]
    if word == "let":
        return let(part, base)
    if word == "set":
        return [*expression(part[3], base), (part[1], part[2])]
    if word in ("setitem", "show", "fail", "return", "do"):
        return [*row(part[1:], base), ("pop",) if word == "do" else (word,)]
    if word == "break":
        return [("unguard",)] * guards + [("jump", leave)]
    if word == "if":
        test = expression(part[1], base)
        at = base + len(test) + 1
        first = block(part[2], at, leave, guards, begins)
        second = block(part[3], at + len(first) + 1, leave, guards, begins)
        otherwise = at + len(first) + 1
        return [*test, ("unless", otherwise), *first, ("jump", otherwise + len(second)), *second]
    if word == "while":
        test = expression(part[1], base)
        at = base + len(test) + 1
        behind = at + len(block(part[2], at, 0, 0, [])) + 1
        return [*test, ("unless", behind), *block(part[2], at, behind, 0, begins), ("jump", base)]
    first = block(part[1], base + 1, leave, guards + 1, begins)
    caught = base + 1 + len(first) + 2
    begin = [("store", part[3])] + ([("box", part[3])] if part[2] == "box" else [])
    second = block(part[4], caught + len(begin), leave, guards, begins)
    return [("guard", caught), *first, ("unguard",), ("jump", caught + len(begin) + len(second)), *begin, *second]


def let(part, base):
    _, how, slot, value = part
    if how == "store":
        return [*expression(value, base), ("store", slot)]
    if value[0] == "function":
        return [("constant", None), ("store", slot), ("box", slot), *expression(value, base + 3), ("fill", slot)]
    return [*expression(value, base), ("store", slot), ("box", slot)]


def compile_plainly(tree):
    """The pair (PROGRAM, begins) of a TREE."""
    codes, begins = [], []
    for names, slots, cells, boxed, body in plan_of(tree):
        found = []
        made = [("box", slot) for slot in sorted(boxed)]
        made += block(body, len(made), None, 0, found)
        made += [("constant", None), ("return",)] if codes else [("halt",)]
        codes.append((names, slots, cells, tuple(made)))
        begins.append(tuple(found))
    return tuple(codes), tuple(begins)


# Section 13.

def lacks(program, code, place, sheet):
    """What the INSTRUCTION lacks: "" if nothing, "kind", or something else."""
    names, slots, cells, instructions = program[code]
    kinds, height, guards = sheet
    instruction = instructions[place]
    word = instruction[0]
    told = [instruction[1]] if word in ("jump", "unless", "guard") else []
    if any(not 0 <= own < len(instructions) for own in (*told, *next_ones(instruction, place))):
        return "place"
    wanted = []
    if word in ("load", "store", "box", "open", "fill"):
        wanted = [(instruction[1], {"store": None, "load": "plain", "box": "plain"}.get(word, "cell"))]
    ups = [instruction[1]] if word in ("up", "upfill") else []
    if word == "close":
        wanted = [(own, "cell") for how, own in instruction[2] if how == "slot"]
        ups = [own for how, own in instruction[2] if how == "up"]
        if not 1 <= instruction[1] < len(program) or program[instruction[1]][2] != len(instruction[2]):
            return "code"
    if any(slot >= slots for slot, _ in wanted) or any(own >= cells for own in ups):
        return "slot"
    if (word == "return" and code == 0) or (word == "halt" and code != 0) or (word == "unguard" and not guards):
        return "misfit"
    if height - effect(instruction)[0] < max([0] + [own for _, own in guards[-1:]]):
        return "height"
    return "kind" if any(kind and kinds[slot] != kind for slot, kind in wanted) else ""


def steps(instruction, place, sheet):
    """The pairs ((place, how), SHEET) to which an INSTRUCTION leads, ascending."""
    kinds, height, guards = sheet
    off, on = effect(instruction)
    changed = list(kinds)
    more = guards
    if instruction[0] in ("store", "box"):
        changed[instruction[1]] = "plain" if instruction[0] == "store" else "cell"
    if instruction[0] == "guard":
        more = (*guards, (instruction[1], height))
    if instruction[0] == "unguard":
        more = guards[:-1]
    found = [((own, "on"), (tuple(changed), height - off + on, more)) for own in next_ones(instruction, place)]
    if guards and instruction[0] in LACKING:
        found.append(((guards[-1][0], "lack"), (kinds, guards[-1][1] + 1, guards[:-1])))
    return sorted(found)


def first_sheet(code):
    return (("plain",) * code[0] + ("none",) * (code[1] - code[0]), 0, ())


def meet(sheets):
    """The SHEET with the kinds that all of some SHEETS bring."""
    kinds = [set(own) for own in zip(*[sheet[0] for sheet in sheets])]
    return (tuple(own.pop() if len(own) == 1 else "none" for own in kinds), *list(sheets)[0][1:])


def rows_by_paths(program, code):
    """The least SHEETS of a CODE by going all PATHS; None if there is a BAR."""
    found = {}
    waiting = [(0, first_sheet(program[code]))]
    while waiting:
        place, sheet = waiting.pop()
        known = found.setdefault(place, {})
        if sheet in known:
            continue
        known[sheet] = True
        if lacks(program, code, place, sheet) or len({own[1:] for own in known}) > 1:
            return None
        waiting.extend((step[0], own) for step, own in steps(program[code][3][place], place, sheet))
    return tuple(meet(found[place]) if place in found else None for place in range(len(program[code][3])))


def table_by_paths(program):
    rows = [rows_by_paths(program, code) for code in range(len(program))]
    return None if None in rows else tuple(rows)


def refused_place(program, code):
    """The place that table_of tells for a CODE, as section 13 describes the way there; None if there is none."""
    begin = first_sheet(program[code])
    shapes, order = {0: begin[1:]}, [0]
    for place in order:
        sheet = (begin[0], *shapes[place])
        if lacks(program, code, place, sheet) not in ("", "kind"):
            return place
        for (other, _), (_, *shape) in steps(program[code][3][place], place, sheet):
            if other not in shapes:
                order.append(other)
            if shapes.setdefault(other, tuple(shape)) != tuple(shape):
                return other
    # All kinds that ways bring, whatever lacks on them.
    brought = {}
    waiting = [(0, begin)]
    while waiting:
        place, sheet = waiting.pop()
        if sheet not in brought.setdefault(place, []):
            brought[place].append(sheet)
            waiting.extend((step[0], own) for step, own in steps(program[code][3][place], place, sheet))
    return min((own for own in brought if lacks(program, code, own, meet(brought[own]))), default=None)


def refusal(program):
    """The pair (code, place) that table_of tells; None if the PROGRAM is taken."""
    for code in range(len(program)):
        if rows_by_paths(program, code) is None:
            return (code, refused_place(program, code))
    return None


def is_table_plainly(program, table):
    """Whether a table of the right form is a TABLE."""
    for code, rows in enumerate(table):
        for place, sheet in [(None, None), *enumerate(rows)]:
            if place is None:
                brought = [((0, "on"), first_sheet(program[code]))]
            elif sheet is None:
                continue
            elif lacks(program, code, place, sheet):
                return False
            else:
                brought = steps(program[code][3][place], place, sheet)
            for (other, _), own in brought:
                if other >= len(rows) or rows[other] is None or rows[other][1:] != own[1:]:
                    return False
                if any(kind != "none" and kind != more for kind, more in zip(rows[other][0], own[0])):
                    return False
    return True


# Section 12: a place is told by the INSTRUCTION that stands there, which is an object of its own.

class Own:
    def __init__(self, instruction):
        self.word = instruction[0]
        self.fields = instruction[1:]
        self.told = None

    def plain(self):
        return (self.word, *self.fields)


def owns_of(instructions):
    owns = [Own(own) for own in instructions]
    for own in owns:
        # One that is never come to may tell a place that is none.
        if own.word in ("jump", "unless", "guard") and own.fields[0] < len(owns):
            own.told = owns[own.fields[0]]
    return owns


def code_of(before, kept):
    """The INSTRUCTIONS of those kept of some that stood there before, a told one that fell away being the one behind."""
    places = {}
    for own in before[::-1]:
        places[id(own)] = kept.index(own) if own in kept else places.get(id(before[before.index(own) + 1]))
    return tuple((own.word, places[id(own.told)]) if own.told else own.plain() for own in kept)


def trims_of_code(program, code):
    """The dict of the trims of a CODE that a taken PROGRAM has, in their order, with the INSTRUCTIONS that come."""
    instructions = program[code][3]
    rows = rows_by_paths(program, code)
    if None in rows:
        owns = owns_of(instructions)
        alive = [own for own, sheet in zip(owns, rows) if sheet]
        for own in alive:
            if own.told and own.told not in alive:
                own.told = owns[0]
        return {("dead", code, rows.index(None)): tuple(
            (own.word, alive.index(own.told)) if own.told else own.plain() for own in alive)}
    found = {}
    for place in range(len(instructions)):
        for rule in ("worked", "dropped", "known", "sure", "twice", "same", "guarded", "next", "thread"):
            made = trim(instructions, place, rule)
            if made is not None:
                found[rule, code, place] = made
    return found


def trim(instructions, place, rule):
    """The INSTRUCTIONS that come of a rule at a place; None if it can not be done."""
    owns = owns_of(instructions)
    told = [own.told for own in owns if own.told]
    one, two, three = (list(instructions[place:place + 3]) + [("",), ("",)])[:3]
    many, stead = 2, None
    if rule == "worked" and one[0] == "constant":
        if two[0] == "one":
            fine, value = one_result(two[1], one[1])
        elif two[0] == "constant" and three[0] == "two":
            many = 3
            fine, value = two_result(three[1], one[1], two[1])
        else:
            return None
        stead = [Own(("constant", value))] if fine else None
    elif rule == "dropped" and one[0] in ("constant", "load", "open", "up") and two == ("pop",):
        stead = []
    elif rule == "known" and one[0] == "constant" and kind_of(one[1]) == "truth" and two[0] == "unless":
        stead = []
        if not one[1]:
            stead = [Own(("jump", 0))]
            stead[0].told = owns[place + 1].told
    elif rule == "sure" and two == ("sure",):
        surely = one[0] == "constant" and kind_of(one[1]) == "truth" or one in (("sure",), ("one", "not"))
        if surely or one in [("two", op) for op in ("<", "<=", "==", "!=")]:
            stead = [owns[place]]
    elif rule == "sure" and one == ("sure",) and two[0] == "unless":
        stead = [owns[place + 1]]
    elif rule == "twice" and one == two == ("one", "not"):
        stead = [Own(("sure",))]
    elif rule == "same" and one[0] == "load" and two == ("store", one[1]):
        stead = []
    elif rule == "guarded" and one[0] == "guard" and two == ("unguard",):
        stead = []
    elif rule == "next" and one == ("jump", place + 1):
        many, stead = 1, []
    elif rule == "thread" and one[0] in ("jump", "unless"):
        end, seen = one[1], []
        while instructions[end][0] == "jump" and end not in seen:
            seen.append(end)
            end = instructions[end][1]
        if end not in seen and end != one[1]:
            many, stead = 1, [owns[place]]
            owns[place].told = owns[end]
    if stead is None or any(own in told for own in owns[place + 1:place + many]):
        return None
    # What told the first one tells what stands in its stead.
    for own in owns + stead:
        if own.told is owns[place] and stead and stead[0] is not owns[place]:
            own.told = stead[0]
    kept = owns[:place] + stead + owns[place + many:]
    before = owns[:place] + stead + [own for own in owns[place:] if own not in stead]
    return code_of(before, kept)


def without_unnamed(program):
    """The PROGRAM without the CODES that are not come to."""
    named, ahead = {0}, None
    while ahead != named:
        ahead = set(named)
        named |= {own[1] for code in ahead for own in program[code][3] if own[0] == "close" and own[1] < len(program)}
    kept = sorted(named)
    return tuple((*program[code][:3], tuple(
        ("close", kept.index(own[1]), own[2]) if own[0] == "close" and own[1] in kept else own
        for own in program[code][3])) for code in kept)


def trims_plainly(program):
    """The dict of the trims of a taken PROGRAM, in their order, with the PROGRAMS that come."""
    found = {}
    for code in range(len(program)):
        for own, made in trims_of_code(program, code).items():
            found[own] = (*program[:code], (*program[code][:3], made), *program[code + 1:])
    if len(without_unnamed(program)) < len(program):
        found["codes", 0, 0] = without_unnamed(program)
    return found


# Section 10.

def is_instruction_text(parts):
    """The INSTRUCTION that parts tell, or None."""
    def number(part):
        return int(part) if part.isascii() and part.isdigit() and str(int(part)) == part and len(part) < 13 else None

    word, *fields = parts
    plain = "return pop sure many item setitem length show fail unguard halt".split()
    numbered = "load store box open fill up upfill call jump unless array guard".split()
    if word in plain:
        return (word,) if not fields else None
    if word in numbered:
        return (word, number(fields[0])) if len(fields) == 1 and number(fields[0]) is not None else None
    if word in ("one", "two"):
        allowed = ("-", "not") if word == "one" else ("+", "-", "*", "/", "~", "<", "<=", "==", "!=")
        return (word, fields[0]) if len(fields) == 1 and fields[0] in allowed else None
    if word == "close":
        takes = list(zip(fields[1::2], map(number, fields[2::2])))
        if len(fields) % 2 == 0 or number(fields[0]) is None:
            return None
        if any(how not in ("slot", "up") or own is None for how, own in takes):
            return None
        return (word, number(fields[0]), tuple(takes))
    if word != "constant":
        return None
    for constant, told in ((None, ["nothing"]), (True, ["truth", "true"]), (False, ["truth", "false"])):
        if fields == told:
            return (word, constant)
    if len(fields) == 2 and fields[0] == "word" and is_constant(fields[1]):
        return (word, fields[1])
    if len(fields) == 2 and fields[0] == "number":
        below = fields[1].startswith("-")
        own = number(fields[1][1:] if below else fields[1])
        if own is not None and own <= 10 ** 9 and not (below and own == 0):
            return (word, -own if below else own)
    return None


def program_of_text(text):
    """The PROGRAM that a text tells, or the number of the first line that can't stand where it stands."""
    made = []
    lines = text.split("\n")
    for at, line in enumerate(lines, 1):
        parts = [part for part in line.split(" ") if part]
        if not parts:
            continue
        if parts[0] == "code":
            numbers = parts[1::2]
            words = parts[0::2]
            if words != ["code", "names", "slots", "cells"] or len(numbers) != 4:
                return at
            if any(not own.isdigit() or str(int(own)) != own or len(own) > 12 for own in numbers):
                return at
            code, names, slots, cells = map(int, numbers)
            if code != len(made) or (made and not made[-1][1]) or slots < names or (code == 0 and names + cells > 0):
                return at
            made.append(((names, slots, cells), []))
            continue
        if not made or len(parts) < 2 or parts[0] != str(len(made[-1][1])) or max(map(len, parts)) > 12:
            return at
        told = is_instruction_text(parts[1:])
        if told is None:
            return at
        made[-1][1].append(told)
    if not made or not made[-1][1]:
        return len(lines) + 1
    return tuple((*head, tuple(body)) for head, body in made)
