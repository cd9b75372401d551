"""Random PROGRAMS, the same ones for the same seed: grown ones, of which the checker takes some, and bent ones."""

import random

from gathermill.codes import effect_of
from gathermill.compiler import compiled
from tests.random_trees import random_program

CONSTANTS = (0, 1, 2, 3, -1, 10 ** 9, True, False, None, "red", "kind")
TWO = ("+", "-", "*", "/", "~", "<", "<=", "==", "!=")
WORDS = ("constant", "constant", "constant", "load", "load", "store", "store", "box", "open", "fill", "up", "upfill",
         "close", "call", "return", "pop", "pop", "jump", "unless", "unless", "sure", "one", "two", "two", "array",
         "many", "item", "setitem", "length", "show", "show", "fail", "guard", "guard", "unguard", "halt")


class CodeGrower:
    """Grows PROGRAMS of some CODES; wild ones tell what is not there more often."""

    def __init__(self, seed, wild):
        self.random = random.Random(seed)
        self.wild = wild

    def number(self, most):
        """Mostly a number below most, if there is one."""
        if most <= 0 or self.random.randrange(100) < self.wild:
            return self.random.randrange(4)
        return self.random.randrange(most)

    def fields(self, word, place, size, own, heads):
        """The fields of an INSTRUCTION of this word in a CODE of this size and head."""
        names, slots, cells = own
        if word == "constant":
            return (self.random.choice(CONSTANTS),)
        if word in ("load", "store", "box", "open", "fill"):
            return (self.number(slots),)
        if word in ("up", "upfill"):
            return (self.number(cells),)
        if word == "close":
            code = self.random.randrange(1, len(heads)) if len(heads) > 1 else self.number(0)
            if self.random.randrange(100) < self.wild:
                code = self.random.randrange(len(heads) + 1)
            many = heads[code][2] if code < len(heads) and self.random.randrange(100) >= self.wild else self.number(0)
            return (code, tuple(self.take(slots, cells) for _ in range(many)))
        if word in ("call", "array"):
            return (self.random.choice((0, 0, 1, 1, 2)),)
        if word in ("jump", "unless", "guard"):
            near = min(size - 1, place + self.random.randint(1, 4))
            return (near if self.random.randrange(100) < 70 else self.number(size),)
        if word == "one":
            return (self.random.choice(("-", "not")),)
        return (self.random.choice(TWO),) if word == "two" else ()

    def take(self, slots, cells):
        if cells and self.random.randrange(2):
            return ("up", self.number(cells))
        return ("slot", self.number(slots))

    def code(self, own, heads, is_main):
        """A CODE, each INSTRUCTION chosen so that the stack is high enough if those ahead of it are done in order."""
        size = self.random.randint(1, 12)
        height = guards = 0
        made = []
        while len(made) < size - 1:
            word = self.random.choice(WORDS)
            instruction = (word, *self.fields(word, len(made), size, own, heads))
            off, on = effect_of(instruction)
            if word in ("return", "halt") or (off > height or (word == "unguard" and not guards)):
                if self.random.randrange(100) >= self.wild:
                    continue
            height = max(0, height - off + on)
            guards += (word == "guard") - (word == "unguard")
            made.append(instruction)
        last = ("halt",) if is_main else ("return",)
        return (*own, tuple(made + [last]))

    def program(self):
        heads = [(0, self.random.choice((0, 1, 2, 3)), 0)]
        for _ in range(self.random.choice((0, 1, 1, 2))):
            names = self.random.choice((0, 0, 1, 2))
            heads.append((names, names + self.random.choice((0, 1, 2)), self.random.choice((0, 0, 1, 2))))
        return tuple(self.code(own, heads, at == 0) for at, own in enumerate(heads))


class Shaper(CodeGrower):
    """Grows PROGRAMS most of which the checker takes: jumps lead to places with the same height and GUARDS."""

    def __init__(self, seed):
        CodeGrower.__init__(self, seed, 0)

    def code(self, own, heads, is_main):
        names, slots, _ = own
        kinds = ["plain"] * names + ["none"] * (slots - names)
        height, guards, made, shapes = 0, (), [], []
        size = self.random.randint(3, 24)
        while len(made) < size:
            word = self.random.choice(WORDS)
            if word in ("return", "halt", "up", "upfill") or (word == "fail" and self.random.randrange(3)):
                if word in ("return", "halt") or own[2] == 0 or word == "fail":
                    continue
            instruction = (word, *self.fields(word, len(made), size, own, heads))
            off, on = effect_of(instruction)
            low = guards[-1][1] if guards else 0
            if height - off < low or (word == "unguard" and not guards) or self.kind_lacks(instruction, kinds, heads):
                continue
            made.append(instruction)
            shapes.append((height, guards))
            height += on - off
            if word in ("store", "box"):
                kinds[instruction[1]] = "plain" if word == "store" else "cell"
            elif word == "guard":
                guards += ((len(made) - 1, height),)
            elif word == "unguard":
                guards = guards[:-1]
        return (*own, self.with_places(made, shapes, height, guards, is_main))

    def kind_lacks(self, instruction, kinds, heads):
        """Whether the slots, if done in order, would lack a kind, or a CELL or a CODE would not be there."""
        word = instruction[0]
        if word in ("load", "store", "box", "open", "fill"):
            if instruction[1] >= len(kinds):
                return True
            return word != "store" and kinds[instruction[1]] != ("plain" if word in ("load", "box") else "cell")
        if word != "close":
            return False
        if not 0 < instruction[1] < len(heads):
            return True
        return any(how == "slot" and (own >= len(kinds) or kinds[own] != "cell") for how, own in instruction[2])

    def with_places(self, made, shapes, height, guards, is_main):
        """The INSTRUCTIONS with an end, and with places told that fit."""
        for _ in guards:
            made.append(("unguard",))
            shapes.append((height, guards))
            guards = guards[:-1]
        for instruction in ((("halt",),) if is_main else (("constant", 0), ("return",))):
            made.append(instruction)
            shapes.append((height, ()))
            height += 1
        for place, (word, *fields) in enumerate(list(made)):
            if word in ("jump", "unless", "guard"):
                high, row = shapes[place]
                high += {"jump": 0, "unless": -1, "guard": 1}[word]
                fitting = [at for at, shape in enumerate(shapes) if shape == (high, row)]
                later = [at for at in fitting if at > place]
                if not fitting:
                    made.append(("fail",))
                    shapes.append((high, row))
                    fitting = [len(made) - 1]
                # A GUARD's place is told in its shape, so rows of GUARDS are the same only if one INSTRUCTION made them.
                made[place] = (word, self.random.choice(later if later and self.random.randrange(4) else fitting))
        return tuple(made)


def shaped_program(seed):
    """A random PROGRAM; the checker takes most of them."""
    return Shaper(seed).program()


def grown_program(seed, wild=4):
    """A random PROGRAM; the checker takes some of them."""
    return CodeGrower(seed, wild).program()


def bent_program(seed, depth=2):
    """The compiled PROGRAM of a random TREE with some INSTRUCTIONS changed, put in or taken away."""
    chance = random.Random(seed)
    program = [list(code) for code in compiled(random_program(chance.randrange(10 ** 6), depth))]
    grower = CodeGrower(seed, 10)
    for _ in range(chance.choice((1, 1, 2, 3))):
        code = chance.randrange(len(program))
        made = list(program[code][3])
        place = chance.randrange(len(made))
        word = chance.choice(WORDS)
        fields = grower.fields(word, place, len(made), tuple(program[code][:3]), [tuple(own[:3]) for own in program])
        how = chance.choice(("change", "change", "put", "take"))
        if how != "put":
            del made[place]
        if how != "take" or not made:
            made.insert(place, (word, *fields))
        program[code][3] = tuple(made)
    return tuple(tuple(code) for code in program)


def compiled_program(seed, depth=3):
    """The compiled PROGRAM of a random TREE."""
    return compiled(random_program(seed, depth))
