"""Sections 17 to 20 of the document written down once more, on top of the other reference machines and memories."""

import random

from gathermill.errors import Fault
from gathermill.memory import memory_begun, placed, used_words, written
from gathermill.minor import minor
from gathermill.values import is_reference, is_value
from tests.reference_machine import Lack, Plain, refers
from tests.reference_memory import (
    firsts, is_count, length_of, mended, parts_of, read_row, stepped_memory, with_parts,
)


def whole_plainly(memory, roots):
    """What comes of a whole collection, by steps."""
    while memory[6] is not None:
        memory, roots = stepped_memory(memory, roots)
    memory, roots = stepped_memory(memory, roots)
    while memory[6] is not None:
        memory, roots = stepped_memory(memory, roots)
    return memory, roots


def fetched_plainly(memory, address, number):
    """What comes of the fetching of a VALUE of an OBJECT in the nursery or here."""
    parts = parts_of(memory)
    parts["words"] = list(parts["words"])
    at = address + 1 + number
    parts["words"][at] = mended(parts, firsts(memory)[1], parts["words"][at])
    parts["words"] = tuple(parts["words"])
    return tuple(parts.values()), parts["words"][at]


class Objects:
    """The OBJECTS of a run, by addresses, as they stand there."""

    def __init__(self, run):
        self.run = run

    def __getitem__(self, at):
        words = self.run.memory[2]
        inner = list(words[at + 1:at + 1 + length_of(words[at])])
        return ["cell", inner[0]] if words[at] == ("cell",) else [*words[at][:-1], inner]


class PlainMill(Plain):
    """A run on the mill: as the plain one, but for what reads, writes and makes OBJECTS."""

    def __init__(self, program, limits, schedule):
        Plain.__init__(self, program, limits)
        self.memory = memory_begun(*limits[:2])
        self.objects = Objects(self)
        self.schedule = schedule
        self.turns = 0
        self.emptied = 0
        self.wholes = 0

    def state(self):
        frames = tuple((own["code"], own["place"], tuple(own["slots"]), tuple(own["stack"]), own["function"],
                        tuple(own["guards"])) for own in self.frames)
        return (frames, self.memory, tuple(self.shown), self.end)

    def gather(self, collection):
        """Does a collection with the roots of the FRAMES."""
        roots = [own for frame in self.frames for own in (*frame["slots"], *frame["stack"], frame["function"])]
        self.memory, roots = collection(self.memory, tuple(roots))
        roots = list(roots)
        for frame in self.frames:
            frame["slots"] = [roots.pop(0) for _ in frame["slots"]]
            frame["stack"] = [roots.pop(0) for _ in frame["stack"]]
            frame["function"] = roots.pop(0)

    def step(self):
        for _ in range(self.schedule[self.turns % len(self.schedule)]):
            self.gather(stepped_memory)
        Plain.step(self)
        self.turns += 1

    def fetch(self, reference, number):
        self.memory, value = fetched_plainly(self.memory, reference[1], number)
        return value

    def put(self, reference, number, value):
        self.memory = written(self.memory, reference[1], number, value)

    def ready(self, words):
        if used_words(self.memory) + words > self.room:
            self.wholes += 1
            self.gather(whole_plainly)
            if used_words(self.memory) + words > self.room:
                self.refused += 1
                raise Lack("room")
        if self.memory[1] - self.memory[3] < words <= self.memory[1]:
            self.emptied += 1
            self.gather(minor)

    def placed(self, *item):
        self.memory, address = placed(self.memory, item)
        return ("@", address)

    def do_box(self, frame, slot):
        self.ready(2)
        frame["slots"][slot] = self.placed("cell", frame["slots"][slot])

    def do_open(self, frame, slot):
        frame["stack"].append(self.fetch(frame["slots"][slot], 0))

    def do_fill(self, frame, slot):
        self.put(frame["slots"][slot], 0, frame["stack"].pop())

    def do_up(self, frame, k):
        frame["stack"].append(self.fetch(self.fetch(frame["function"], k), 0))

    def do_upfill(self, frame, k):
        self.put(self.fetch(frame["function"], k), 0, frame["stack"].pop())

    def do_close(self, frame, code, takes):
        self.ready(1 + len(takes))
        cells = [frame["slots"][own] if how == "slot" else self.fetch(frame["function"], own) for how, own in takes]
        frame["stack"].append(self.placed("function", code, tuple(cells)))

    def do_array(self, frame, n):
        self.ready(1 + n)
        values = [frame["stack"].pop() for _ in range(n)][::-1]
        frame["stack"].append(self.placed("array", tuple(values)))

    def do_many(self, frame):
        n = self.want(frame["stack"][-2], "number")
        if not 0 <= n <= 1000:
            raise Lack("range")
        self.ready(1 + n)
        value = frame["stack"].pop()
        frame["stack"][-1] = self.placed("array", (value,) * n)

    def do_item(self, frame):
        row, i = frame["stack"][-2:]
        self.place(row, i)
        frame["stack"][-2:] = [self.fetch(row, i)]

    def do_setitem(self, frame):
        row, i, value = frame["stack"][-3:]
        self.place(row, i)
        self.put(row, i, value)
        del frame["stack"][-3:]


def is_string(thing):
    return isinstance(thing, str)


def is_frames_plainly(thing):
    """Whether thing is a tuple of FRAMES, maybe ()."""
    if not isinstance(thing, tuple):
        return False
    for frame in thing:
        if not isinstance(frame, tuple) or len(frame) != 6 or not all(isinstance(own, tuple) for own in (*frame[2:4], frame[5])):
            return False
        if not is_count(frame[0]) or not is_count(frame[1]) or not (frame[4] is None or is_reference(frame[4])):
            return False
        if not all(own == () or is_value(own) for own in frame[2]) or not all(map(is_value, frame[3])):
            return False
        if not all(isinstance(own, tuple) and len(own) == 2 and all(map(is_count, own)) for own in frame[5]):
            return False
    return True


def is_end_plainly(thing):
    if thing is None:
        return True
    return isinstance(thing, tuple) and (repr(thing) == "('done',)" or (
        len(thing) == 2 and is_string(thing[0]) and thing[0] == "failed" and is_string(thing[1])))


def has_form_plainly(thing):
    """Section 20: a MILL in form."""
    if not isinstance(thing, tuple) or len(thing) != 4 or not is_frames_plainly(thing[0]) or not is_end_plainly(thing[3]):
        return False
    if not isinstance(thing[2], tuple) or not all(map(is_string, thing[2])):
        return False
    memory = thing[1]
    if not isinstance(memory, tuple) or len(memory) != 9:
        return False
    room, nursery, words, young, half, free, scan, left, remembered = memory
    if not all(map(is_count, (room, nursery, young, half, free, left))) or nursery < 4 or young > nursery or half > 1:
        return False
    here = nursery + half * room
    if left > room or not isinstance(words, tuple) or len(words) != nursery + 2 * room or not here <= free <= here + room:
        return False
    if scan is not None and not (is_count(scan) and here <= scan <= free):
        return False
    if not isinstance(remembered, tuple) or not all(map(is_count, remembered)):
        return False
    if list(remembered) != sorted(set(remembered)) or not all(here <= own < free for own in remembered):
        return False
    moved = [own for own in words if isinstance(own, tuple) and len(own) == 2 and is_string(own[0]) and own[0] == "moved"]
    return all(own == ("free",) or length_of(own) is not None or is_value(own) or (own in moved and is_count(own[1]))
               for own in words)


def rows_of(memory):
    """The three dicts (address: words) of what lies in the nursery, here, there, with heads; None if not laid."""
    room, nursery, words, young, _, free, scan = memory[:7]
    here, there = firsts(memory)
    nursed = read_row(words, 0, young, lambda at: length_of(words[at]))
    near = read_row(words, here, free, lambda at: length_of(words[at]))
    if nursed is None or near is None:
        return None
    end = there
    while end < there + room and words[end] != ("free",):
        end += 1

    def head(at):
        own = words[at]
        if isinstance(own, tuple) and own and own[0] == "moved":
            return words[own[1]] if own[1] in near else None
        return own

    far = read_row(words, there, end, lambda at: length_of(head(at)))
    if far is None or (scan is None and far):
        return None
    taken = {*range(young), *range(here, free), *range(there, end)}
    if any(own != ("free",) for at, own in enumerate(words) if at not in taken):
        return None
    for row in (nursed, near, far):
        for at, inner in row.items():
            if not all(is_value(own) and (head(at)[0] != "function" or is_reference(own)) for own in inner):
                return None
    return nursed, near, far, head


def breaches_plainly(mill):
    """Section 20: the sentences that a MILL in form breaks."""
    frames, memory = mill[:2]
    room, _, words, young, _, free, scan, left, remembered = memory
    laid = rows_of(memory)
    if laid is None:
        return ("laid",)
    nursed, near, far, head = laid
    held = [own for frame in frames for own in (*frame[2], *frame[3], frame[4]) if refers(own)]
    gone = [at for at in far if words[at][0] == "moved"]
    here = firsts(memory)[0]
    led = all(own[1] in nursed or own[1] in near for own in held)
    cells = True
    for at, inner in [*nursed.items(), *near.items(), *far.items()]:
        for place, own in enumerate(inner, at + 1):
            if refers(own) and at not in gone:
                unscanned = at in near and scan is not None and place >= scan
                close_by = own[1] in nursed or own[1] in near
                led = led and (own[1] in far if at in far else close_by or (unscanned and own[1] in far))
            if at not in gone and head(at)[0] == "function":
                cells = cells and (own[1] in {**nursed, **near, **far} and head(own[1]) == ("cell",))
    for at, frame in enumerate(frames):
        if at == 0:
            cells = cells and frame[4] is None
        elif frame[4] is None or frame[4][1] not in {**nursed, **near, **far} or head(frame[4][1])[:2] != ("function", frame[0]):
            cells = False
    kept = [at for at in range(here, free) if refers(words[at]) and words[at][0] == "@" and words[at][1] < memory[1]]
    sums = sum(1 + len(inner) for at, inner in far.items() if at not in gone)
    told = {"led": led, "kept": list(remembered) == kept, "moved": len({words[at] for at in gone}) == len(gone),
            "left": left == sums, "used": young + free - here + left <= room, "cells": cells}
    return tuple(name for name, own in told.items() if not own)


def address_of(memory, address):
    """Where the OBJECT lies to which a REFERENCE to this address leads."""
    while memory[2][address][0] == "moved":
        address = memory[2][address][1]
    return address


def order_plainly(mill):
    """The addresses of the OBJECTS to which FRAMES lead, in the order in which they are first come to."""
    ahead = [own for frame in mill[0] for own in (*frame[2], *frame[3], frame[4])]
    order = []
    for own in ahead:
        if refers(own):
            at = address_of(mill[1], own[1])
            if at not in order:
                order.append(at)
                ahead.extend(mill[1][2][at + 1:at + 1 + length_of(mill[1][2][at])])
    return order


def sight_plainly(mill):
    """Section 19: the SIGHT of a MILL."""
    order = order_plainly(mill)
    words = mill[1][2]

    def number(own):
        return ("@", order.index(address_of(mill[1], own[1]))) if refers(own) else own

    objects = []
    for at in order:
        inner = tuple(number(own) for own in words[at + 1:at + 1 + length_of(words[at])])
        objects.append(("cell", inner[0]) if words[at] == ("cell",) else (*words[at][:-1], inner))
    frames = tuple((code, place, tuple(map(number, slots)), tuple(map(number, stack)), number(function), guards)
                   for code, place, slots, stack, function, guards in mill[0])
    return (frames, tuple(objects), mill[2], mill[3])


class MillBender:
    """Turns parts of MILLS at random."""

    def __init__(self, seed):
        self.random = random.Random(seed)

    def value(self, memory):
        return self.random.choice((0, 1, True, None, "red", (), 10 ** 10, *(
            ("@", self.random.randrange(len(memory[2]))) for _ in range(5))))

    def bent(self, mill):
        """The MILL with one part changed, maybe for one that is as good."""
        frames, memory, shown, end = mill
        how = self.random.choice(("frame", "frame", "memory", "memory", "word", "word", "word", "word", "shown", "end", "frames"))
        if how == "frame" and frames:
            at = self.random.randrange(len(frames))
            return ((*frames[:at], self.bent_frame(frames[at], memory), *frames[at + 1:]), memory, shown, end)
        if how == "frames":
            return (self.random.choice(((), frames[1:], frames + frames[:1], frames + frames[-1:])), memory, shown, end)
        if how == "shown":
            return (frames, memory, self.random.choice(((), shown + ("x",), shown + (1,), list(shown), None)), end)
        if how == "end":
            return (frames, memory, shown, self.random.choice(
                (None, ("done",), ("failed", "kind"), ("failed", ""), ("failed",), ("done", 1), ("going",), "done", True, ())))
        return (frames, self.bent_memory(memory, how), shown, end)

    def bent_frame(self, frame, memory):
        parts = list(frame)
        at = self.random.randrange(6)
        if at < 2:
            parts[at] = self.random.choice((0, 1, 2, -1, None, True))
        elif at == 4:
            parts[at] = self.random.choice((None, self.value(memory), self.value(memory)))
        elif at == 5:
            parts[at] = self.random.choice((frame[5] + ((0, 9),), frame[5] + ((0,),), [(0, 0)], frame[5] + ((-1, 0),)))
        else:
            own = list(frame[at]) + [self.value(memory)]
            own[self.random.randrange(len(own))] = self.value(memory)
            parts[at] = tuple(own)
        return tuple(parts)

    def bent_memory(self, memory, how):
        parts = parts_of(memory)
        words = memory[2]
        if how == "word":
            # Mostly a word that is not free is turned.
            taken = [at for at, own in enumerate(words) if own != ("free",)] or [0]
            at = self.random.choice(taken) if self.random.randrange(8) else self.random.randrange(len(words))
            near = [("@", own) for own in taken] + [("moved", own) for own in taken]
            word = self.random.choice([("free",), ("cell",), ("array", 0), ("array", 1), ("function", 1, 1), ("function", 0, 0), 7, None,
                                       self.value(memory), *[self.random.choice(near) for _ in range(8)]])
            return with_parts(memory, words=words[:at] + (word,) + words[at + 1:])
        part = self.random.choice([own for own in parts if own != "words"])
        if part == "remembered":
            more = tuple(sorted({*memory[8], self.random.randrange(len(words))}))
            return with_parts(memory, remembered=self.random.choice((more, memory[8][1:], memory[8] * 2, list(memory[8]))))
        if part == "scan":
            here = firsts(memory)[0]
            return with_parts(memory, scan=self.random.choice((None, here, memory[5], memory[5] + 1, self.random.randint(here, memory[5]))))
        if parts[part] is None:
            return memory
        return with_parts(memory, **{part: parts[part] + self.random.choice((-2, -1, 1, 2))})


def mills_plainly(program, limits, schedule, most):
    """The MILLS along a run, and the run; a Fault as the last of them."""
    run = PlainMill(program, limits, schedule)
    mills = run.run(most)
    return mills, run


def told_fault(mills):
    """The Fault at the end of what mills_plainly tells, taken away; None if there is none."""
    return Fault(*mills.pop()) if len(mills[-1]) == 2 else None
