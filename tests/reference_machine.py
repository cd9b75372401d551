"""Section 14 of the document written down once more: the plain machine, with faults, lacks and what they lead to."""

from gathermill.errors import Fault
from gathermill.values import kind_of, one_result, showing, two_result, words_of


class Lack(Exception):
    """An INSTRUCTION lacks something."""


class Ended(Exception):
    """The run ends."""


def refers(value):
    return isinstance(value, tuple) and len(value) == 2


def reached(frames, objects):
    """The places of live OBJECTS, in the order in which they are first come to."""
    order = [own[1] for frame in frames for own in (*frame["slots"], *frame["stack"], frame["function"]) if refers(own)]
    order = list(dict.fromkeys(order))
    for number in order:
        inner = objects[number][-1]
        for own in (inner,) if objects[number][0] == "cell" else inner:
            if refers(own) and own[1] not in order:
                order.append(own[1])
    return order


class Plain:
    """A run: FRAMES are dicts, OBJECTS lists."""

    def __init__(self, program, limits):
        self.program = program
        self.room, _, self.deep = limits
        self.frames = [self.frame(0, [], None)]
        self.objects = []
        self.shown = []
        self.end = None
        self.refused = 0

    def frame(self, code, values, function):
        slots = values + [()] * (self.program[code][1] - len(values))
        return {"code": code, "place": 0, "slots": slots, "stack": [], "function": function, "guards": []}

    def state(self):
        frames = tuple((own["code"], own["place"], tuple(own["slots"]), tuple(own["stack"]), own["function"],
                        tuple(own["guards"])) for own in self.frames)
        objects = tuple(tuple(tuple(part) if isinstance(part, list) else part for part in own) for own in self.objects)
        return (frames, objects, tuple(self.shown), self.end)

    def run(self, most):
        """The list of the STATES; a Fault as its last member."""
        states = [self.state()]
        while len(states) <= most and self.end is None:
            try:
                self.step()
            except Fault as fault:
                return [*states, (fault.code, fault.place)]
            states.append(self.state())
        return states

    def step(self):
        frame = self.frames[-1]
        code, place = frame["code"], frame["place"]
        instructions = self.program[code][3]
        if place >= len(instructions) or self.is_wrong(frame, *instructions[place]):
            raise Fault(code, place)
        word, *fields = instructions[place]
        try:
            getattr(self, "do_" + word)(frame, *fields)
        except Lack as lack:
            self.fail(lack.args[0], code, place)
        except Ended:
            self.frames, self.end = [], ("done",)
        else:
            if word not in ("jump", "unless", "fail"):
                frame["place"] += 1

    def is_cell(self, value):
        return refers(value) and self.objects[value[1]][0] == "cell"

    def is_wrong(self, frame, word, *fields):
        slots, stack, guards = frame["slots"], frame["stack"], frame["guards"]
        cells = self.objects[frame["function"][1]][2] if frame["function"] else []
        needs = {"store": 1, "fill": 1, "upfill": 1, "pop": 1, "unless": 1, "show": 1, "return": 1, "fail": 1, "sure": 1,
                 "one": 1, "length": 1, "two": 2, "many": 2, "item": 2, "setitem": 3}
        if len(stack) < (fields[0] + (word == "call") if word in ("call", "array") else needs.get(word, 0)):
            return True
        if word in ("load", "box", "open", "fill", "store") and fields[0] >= len(slots):
            return True
        if word in ("load", "box") and (slots[fields[0]] == () or self.is_cell(slots[fields[0]])):
            return True
        if word in ("open", "fill") and not self.is_cell(slots[fields[0]]):
            return True
        if word in ("up", "upfill") and fields[0] >= len(cells):
            return True
        if word == "close":
            if fields[0] >= len(self.program) or self.program[fields[0]][2] != len(fields[1]):
                return True
            for how, number in fields[1]:
                if how == "up" and number >= len(cells):
                    return True
                if how == "slot" and (number >= len(slots) or not self.is_cell(slots[number])):
                    return True
        return (word == "return" and len(self.frames) == 1) or (word == "unguard" and not guards)

    def fail(self, value, code, place):
        while self.frames:
            frame = self.frames[-1]
            if frame["guards"]:
                told, height = frame["guards"].pop()
                if height > len(frame["stack"]):
                    raise Fault(code, place)
                frame["stack"] = frame["stack"][:height] + [value]
                frame["place"] = told
                return
            self.frames.pop()
        self.end = ("failed", self.showing(value))

    def showing(self, value):
        if not refers(value):
            return showing(value, None, None)
        item = self.objects[value[1]]
        return showing(value, item, self.program[item[1]][0] if item[0] == "function" else None)

    def new(self, *item):
        room = sum(words_of(self.objects[number]) for number in reached(self.frames, self.objects))
        if room + words_of(item) > self.room:
            self.refused += 1
            raise Lack("room")
        self.objects.append(list(item))
        return ("@", len(self.objects) - 1)

    def want(self, value, kind):
        if kind_of(value) != kind:
            raise Lack("kind")
        return value

    def item(self, value, word):
        if self.objects[self.want(value, "reference")[1]][0] != word:
            raise Lack("kind")
        return self.objects[value[1]]

    def do_constant(self, frame, constant):
        frame["stack"].append(constant)

    def do_load(self, frame, slot):
        frame["stack"].append(frame["slots"][slot])

    def do_store(self, frame, slot):
        frame["slots"][slot] = frame["stack"].pop()

    def do_box(self, frame, slot):
        frame["slots"][slot] = self.new("cell", frame["slots"][slot])

    def do_open(self, frame, slot):
        frame["stack"].append(self.objects[frame["slots"][slot][1]][1])

    def do_fill(self, frame, slot):
        self.objects[frame["slots"][slot][1]][1] = frame["stack"].pop()

    def cell(self, frame, k):
        return self.objects[self.objects[frame["function"][1]][2][k][1]]

    def do_up(self, frame, k):
        frame["stack"].append(self.cell(frame, k)[1])

    def do_upfill(self, frame, k):
        self.cell(frame, k)[1] = frame["stack"].pop()

    def do_close(self, frame, code, takes):
        cells = [frame["slots"][own] if how == "slot" else self.objects[frame["function"][1]][2][own]
                 for how, own in takes]
        frame["stack"].append(self.new("function", code, tuple(cells)))

    def do_call(self, frame, n):
        _, code, _ = self.item(frame["stack"][-n - 1], "function")
        if self.program[code][0] != n:
            raise Lack("count")
        if len(self.frames) + 1 > self.deep:
            raise Lack("deep")
        values = [frame["stack"].pop() for _ in range(n)][::-1]
        self.frames.append(self.frame(code, values, frame["stack"].pop()))

    def do_return(self, frame):
        self.frames.pop()
        self.frames[-1]["stack"].append(frame["stack"][-1])

    def do_pop(self, frame):
        frame["stack"].pop()

    def do_jump(self, frame, place):
        frame["place"] = place

    def do_unless(self, frame, place):
        frame["place"] = frame["place"] + 1 if self.want(frame["stack"][-1], "truth") else place
        frame["stack"].pop()

    def do_sure(self, frame):
        self.want(frame["stack"][-1], "truth")

    def settle(self, frame, off, pair):
        if not pair[0]:
            raise Lack(pair[1])
        frame["stack"][-off:] = [pair[1]]

    def do_one(self, frame, op):
        self.settle(frame, 1, one_result(op, frame["stack"][-1]))

    def do_two(self, frame, op):
        self.settle(frame, 2, two_result(op, *frame["stack"][-2:]))

    def do_array(self, frame, n):
        stack = frame["stack"]
        made = self.new("array", stack[len(stack) - n:])
        frame["stack"] = stack[:len(stack) - n] + [made]

    def do_many(self, frame):
        n, value = frame["stack"][-2:]
        if not 0 <= self.want(n, "number") <= 1000:
            raise Lack("range")
        frame["stack"][-2:] = [self.new("array", [value] * n)]

    def place(self, row, i):
        inner = self.item(row, "array")[1]
        if not 0 <= self.want(i, "number") < len(inner):
            raise Lack("place")
        return inner

    def do_item(self, frame):
        row, i = frame["stack"][-2:]
        frame["stack"][-2:] = [self.place(row, i)[i]]

    def do_setitem(self, frame):
        row, i, value = frame["stack"][-3:]
        self.place(row, i)[i] = value
        del frame["stack"][-3:]

    def do_length(self, frame):
        frame["stack"][-1] = len(self.item(frame["stack"][-1], "array")[1])

    def do_show(self, frame):
        self.shown.append(self.showing(frame["stack"].pop()))

    def do_fail(self, frame):
        self.fail(frame["stack"][-1], frame["code"], frame["place"])

    def do_guard(self, frame, place):
        frame["guards"].append((place, len(frame["stack"])))

    def do_unguard(self, frame):
        frame["guards"].pop()

    def do_halt(self, frame):
        raise Ended
