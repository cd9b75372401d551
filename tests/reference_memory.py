"""Sections 15 and 16 of the document written down once more, and the steps of section 17 that tests need."""

import random

from gathermill.memory import memory_begun, objects_in, placed, read, used_words, written
from gathermill.minor import minor
from gathermill.values import is_object, is_reference, is_value

PARTS = "room nursery words young half free scan left remembered".split()


def parts_of(memory):
    return dict(zip(PARTS, memory))


def with_parts(memory, **parts):
    """The memory with other parts."""
    return tuple({**parts_of(memory), **parts}.values())


def firsts(memory):
    """The first addresses here and there."""
    room, nursery, _, _, half = memory[:5]
    return nursery + half * room, nursery + (1 - half) * room


def is_count(thing):
    return type(thing) is int and thing >= 0


def length_of(head):
    """How many words belong to a HEADER, without it; None if it is none."""
    for fine in (("cell",), ("array", 0), ("function", 0, 0)):
        if isinstance(head, tuple) and head and type(head[0]) is str and head[0] == fine[0] and len(head) == len(fine):
            if all(is_count(own) for own in head[1:]):
                return 1 if head == ("cell",) else head[-1]
    return None


def read_row(words, at, end, length_at):
    """The dict (address: words behind the HEADER) of what lies side by side up to end; None if it does not."""
    found = {}
    while at < end:
        length = length_at(at)
        if length is None or at + length >= end:
            return None
        found[at] = words[at + 1:at + 1 + length]
        at += 1 + length
    return found


def are_right(words, found, head_at):
    """Whether VALUES stand behind HEADERS, REFERENCES behind those of FUNCTIONS."""
    for at, inner in found.items():
        if not all(is_value(own) and (head_at(at)[0] != "function" or is_reference(own)) for own in inner):
            return False
    return True


def is_memory_plainly(thing):
    if not isinstance(thing, tuple) or len(thing) != 9:
        return False
    room, nursery, words, young, half, free, scan, left, remembered = thing
    if not all(map(is_count, (room, nursery, young, half, free, left))) or nursery < 4 or half not in (0, 1):
        return False
    if not isinstance(words, tuple) or len(words) != nursery + 2 * room or young > nursery:
        return False
    here, there = firsts(thing)
    if not here <= free <= here + room or not (scan is None or (is_count(scan) and here <= scan <= free)):
        return False
    nursed = read_row(words, 0, young, lambda at: length_of(words[at]))
    near = read_row(words, here, free, lambda at: length_of(words[at]))
    if nursed is None or near is None:
        return False
    end = there
    while end < there + room and words[end] != ("free",):
        end += 1
    gone = {at: words[at][1] for at in range(there, end) if isinstance(words[at], tuple) and len(words[at]) == 2
            and words[at][0] == "moved" and is_count(words[at][1]) and words[at][1] in near}
    far = read_row(words, there, end, lambda at: length_of(words[gone[at]] if at in gone else words[at]))
    if far is None or not set(gone) <= set(far) or len(set(gone.values())) < len(gone):
        return False
    taken = {*range(young), *range(here, free), *range(there, end)}
    if any(words[at] != ("free",) for at in range(len(words)) if at not in taken) or (scan is None and end > there):
        return False
    if not are_right(words, {**nursed, **near, **far}, lambda at: words[gone.get(at, at)]):
        return False
    if left != sum(1 + len(inner) for at, inner in far.items() if at not in gone):
        return False
    if young + free - here + left > room:
        return False
    unscanned = len(words) if scan is None else scan
    for at, inner in {**nursed, **near, **far}.items():
        for place, own in enumerate(inner, at + 1):
            if at in gone or not is_reference(own):
                continue
            leads_near = own[1] in nursed or own[1] in near
            allowed = own[1] in far if at in far else leads_near or (at in near and place >= unscanned and own[1] in far)
            if not allowed:
                return False
    young_places = [at for at in range(here, free) if is_reference(words[at]) and words[at][1] < nursery]
    return isinstance(remembered, tuple) and all(map(is_count, remembered)) and list(remembered) == young_places


def stepped_memory(memory, roots):
    """What comes of one step of the collector, as section 17 tells, to have memories with collections that go on."""
    if memory[6] is None:
        memory, roots = minor(memory, roots)
        return flipped_memory(memory, roots)
    parts = parts_of(memory)
    words = list(parts["words"])
    room = parts["room"]
    there = firsts(memory)[1]
    if parts["scan"] == parts["free"]:
        words[there:there + room] = [("free",)] * room
        return with_parts(memory, words=tuple(words), scan=None, left=0), roots
    parts["words"] = words
    words[parts["scan"]] = mended(parts, there, words[parts["scan"]])
    return with_parts(memory, words=tuple(words), scan=parts["scan"] + 1, left=parts["left"], free=parts["free"]), roots


def flipped_memory(memory, roots):
    parts = parts_of(memory)
    here, there = firsts(memory)
    parts.update(left=parts["free"] - here, half=1 - parts["half"], free=there, scan=there, words=list(parts["words"]))
    roots = tuple(mended(parts, here, own) for own in roots)
    parts["words"] = tuple(parts["words"])
    return tuple(parts.values()), roots


def mended(parts, there, value):
    """A VALUE that leads to no OBJECT there any more, which is moved for it if need be."""
    if not is_reference(value) or not there <= value[1] < there + parts["room"]:
        return value
    words, at = parts["words"], value[1]
    if words[at][0] != "moved":
        size = 1 + length_of(words[at])
        free = parts["free"]
        words[free:free + size] = words[at:at + size]
        words[at] = ("moved", free)
        parts["free"] += size
        parts["left"] -= size
    return ("@", words[at][1])


def minor_plainly(memory, roots):
    """The triple of the memory, the roots, the moves: OBJECTS are moved as they are come to from a list."""
    room, nursery, words, young, half, free, scan, left, remembered = memory
    words = list(words)
    order = []
    ahead = [*roots, *[words[at] for at in remembered]]
    for own in ahead:
        if is_reference(own) and own[1] < nursery and own[1] not in order:
            order.append(own[1])
            ahead.extend(words[own[1] + 1:own[1] + 1 + length_of(words[own[1]])])
    moves = []
    for at in order:
        size = 1 + length_of(words[at])
        words[free:free + size] = words[at:at + size]
        moves.append((at, free))
        free += size
    new = {("@", old): ("@", at) for old, at in moves}
    known = set(remembered)
    for _, at in moves:
        known.update(range(at, at + 1 + length_of(words[at])))
    for at in known:
        if is_reference(words[at]):
            words[at] = new.get(words[at], words[at])
    words[:nursery] = [("free",)] * nursery
    memory = (room, nursery, tuple(words), 0, half, free, scan, left, ())
    return memory, tuple(new.get(own, own) if is_reference(own) else own for own in roots), tuple(moves)


def look(memory, roots):
    """What roots look like however far one goes: each REFERENCE by the place at which it is first come to."""
    order, told = [], []
    ahead = list(roots)
    while ahead:
        own = ahead.pop(0)
        if is_reference(own):
            at = own[1]
            while memory[2][at][0] == "moved":
                at = memory[2][at][1]
            if at not in order:
                order.append(at)
                ahead.append(("head", memory[2][at]))
                ahead.extend(memory[2][at + 1:at + 1 + length_of(memory[2][at])])
            own = ("@", order.index(at))
        told.append(own)
    return told


class MemoryWalker:
    """Goes on from memory to memory at random; roots are some VALUES that lead to OBJECTS in the nursery or here."""

    def __init__(self, seed):
        self.random = random.Random(seed)
        self.memory = memory_begun(self.random.choice((0, 1, 5, 12, 12, 20, 20, 40)), self.random.choice((4, 4, 5, 8)))
        self.roots = ()

    def value(self):
        found = [("@", at) for at in objects_in(self.memory) if self.is_near(at)]
        if found and self.random.randrange(3):
            return self.random.choice(found)
        return self.random.choice((0, 7, -1, True, None, "red"))

    def is_near(self, at):
        return at < self.memory[1] or firsts(self.memory)[0] <= at < self.memory[5]

    def item(self):
        word = self.random.choice(("array", "array", "cell", "function"))
        if word == "cell":
            return (word, self.value())
        inner = tuple(self.value() for _ in range(self.random.choice((0, 1, 1, 2, 3, 6))))
        if word == "array":
            return (word, inner)
        return (word, self.random.randrange(3), tuple(own for own in inner if is_reference(own)))

    def go_on(self):
        """Does something; the word for it is told."""
        how = self.random.choice(("place", "place", "place", "write", "write", "step", "step", "step", "minor", "drop"))
        if how == "place":
            item = self.item()
            words = 2 if item[0] == "cell" else 1 + len(item[-1])
            small = words <= self.memory[1]
            fits = used_words(self.memory) + words <= self.memory[0]
            if fits and (not small or words <= self.memory[1] - self.memory[3]):
                self.memory, at = placed(self.memory, item)
                self.roots += (("@", at), self.random.choice((5, ())))
            else:
                how = "full"
        elif how == "write":
            self.write()
        elif how == "step":
            self.memory, self.roots = stepped_memory(self.memory, self.roots)
        elif how == "minor":
            self.memory, self.roots = minor(self.memory, self.roots)
        else:
            self.roots = tuple(own for own in self.roots if self.random.randrange(3))
        return how

    def write(self):
        fitting = [at for at in objects_in(self.memory) if self.is_near(at) and self.memory[2][at][0] != "function"
                   and length_of(self.memory[2][at])]
        if fitting:
            at = self.random.choice(fitting)
            number = self.random.randrange(length_of(self.memory[2][at]))
            value = self.value()
            self.memory = written(self.memory, at, number, value)
            assert read(self.memory, at, number) == value and is_object(("cell", value))

    def bent(self):
        """The memory with one part or word changed, maybe for one that is as good."""
        part = self.random.choice(PARTS + ["words"] * 8)
        parts = parts_of(self.memory)
        own = parts[part]
        if part == "words" and own:
            at = self.random.randrange(len(own))
            addresses = [("@", self.random.randrange(len(own))), ("moved", self.random.randrange(len(own)))]
            word = self.random.choice([("free",), ("cell",), ("array", 0), ("array", 2), ("function", 1, 1), 7, None,
                                       *addresses, *addresses, own[self.random.randrange(len(own))]])
            return with_parts(self.memory, words=own[:at] + (word,) + own[at + 1:])
        if part == "remembered":
            more = own + (self.random.randrange(1 + len(parts["words"])),)
            return with_parts(self.memory, remembered=self.random.choice((more, tuple(sorted(more)), own[1:])))
        if part == "scan":
            return with_parts(self.memory, scan=self.random.choice(
                (None, *range(parts["free"] - 2, parts["free"] + 2), firsts(self.memory)[0])))
        if part == "words":
            return with_parts(self.memory, words=own + (("free",),))
        return with_parts(self.memory, **{part: own + self.random.choice((-1, 1))})
