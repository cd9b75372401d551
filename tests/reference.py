"""The document's words written down once more, in the plainest way, to compare the package with."""

from gathermill.errors import Misplaced, NoName, Twice
from gathermill.values import kind_of, one_result, showing, two_result


class Naming:
    """Section 8: VARIABLES, uses and PLAN, by recursion over environments that are dicts."""

    def __init__(self, tree):
        self.variables = []
        self.uses = []
        self.codes = 0
        self.outer = {0: None}
        self.names = {0: ()}
        self.plain = {}
        self.plain[0] = self.block(tree, {}, 0, False, ())
        self.captured = sorted({variable for variable, code in self.uses if self.variables[variable][1] != code})

    def begin(self, name, code):
        self.variables.append((name, code))
        return len(self.variables) - 1

    def block(self, block, there, code, breaks, taken):
        """The BLOCK with numbers of VARIABLES in the place of NAMES, and CODES in that of functions."""
        there = dict(there)
        taken = set(taken)
        told = []
        for statement in block:
            if statement[0] == "let":
                name = statement[1]
                if name in taken:
                    raise Twice(name)
                taken.add(name)
                number = self.begin(name, code)
                inside = {**there, name: number} if statement[2][0] == "function" else there
                told.append(("let", number, self.part(statement[2], inside, code, breaks)))
                there[name] = number
            else:
                told.append(self.part(statement, there, code, breaks))
        return tuple(told)

    def use(self, name, there, code):
        if name not in there:
            raise NoName(name)
        self.uses.append((there[name], code))
        return there[name]

    def part(self, part, there, code, breaks):
        word = part[0]
        if word == "name":
            return ("name", self.use(part[1], there, code), code)
        if word == "set":
            return ("set", self.use(part[1], there, code), code, self.part(part[2], there, code, breaks))
        if word == "function":
            self.codes += 1
            own = self.codes
            self.outer[own] = code
            inside = {**there, **{name: self.begin(name, own) for name in part[1]}}
            self.names[own] = tuple(inside[name] for name in part[1])
            self.plain[own] = self.block(part[2], inside, own, False, part[1])
            return ("function", own)
        if word == "try":
            first = self.block(part[1], there, code, breaks, ())
            number = self.begin(part[2], code)
            return (word, first, number, self.block(part[3], {**there, part[2]: number}, code, breaks, (part[2],)))
        if (word == "break" and not breaks) or (word == "return" and code == 0):
            raise Misplaced(word)
        if word == "while":
            return (word, self.part(part[1], there, code, breaks), self.block(part[2], there, code, True, ()))
        if word == "if":
            return (word, self.part(part[1], there, code, breaks), self.block(part[2], there, code, breaks, ()),
                    self.block(part[3], there, code, breaks, ()))
        return tuple(self.field(own, there, code, breaks) if word != "constant" else own for own in part)

    def field(self, own, there, code, breaks):
        if isinstance(own, tuple) and (not own or isinstance(own[0], tuple)):
            return tuple(self.part(inner, there, code, breaks) for inner in own)
        return self.part(own, there, code, breaks) if isinstance(own, tuple) else own

    def slot(self, variable):
        own = self.variables[variable][1]
        return [number for number, (_, code) in enumerate(self.variables) if code == own].index(variable)

    def cells(self, code):
        """The VARIABLES of CODES around a CODE that are used in it or within it, as they are come to first."""
        found = []
        for variable, user in self.uses:
            around = []
            while user is not None:
                around.append(user)
                user = self.outer[user]
            own = self.variables[variable][1]
            if code in around and own in around[around.index(code) + 1:] and variable not in found:
                found.append(variable)
        return found

    def way(self, variable, code, words):
        if self.variables[variable][1] != code:
            return (words[2], self.cells(code).index(variable))
        return (words[1] if variable in self.captured else words[0], self.slot(variable))

    def planned(self, part):
        if not isinstance(part, tuple):
            return part
        word = part[0] if part else ""
        if word == "constant":
            return part
        if word == "name":
            return self.way(part[1], part[2], ("load", "open", "up"))
        if word == "set":
            return ("set", *self.way(part[1], part[2], ("store", "fill", "upfill")), self.planned(part[3]))
        if word == "let":
            return ("let", "box" if part[1] in self.captured else "store", self.slot(part[1]), self.planned(part[2]))
        if word == "try":
            how = ("box" if part[2] in self.captured else "store", self.slot(part[2]))
            return ("try", self.planned(part[1]), *how, self.planned(part[3]))
        if word == "function":
            return ("function", part[1], tuple(
                self.way(variable, self.outer[part[1]], ("slot", "slot", "up")) for variable in self.cells(part[1])))
        return tuple(self.planned(own) for own in part)

    def plan(self):
        return tuple((
            len(self.names[code]), len([own for own in self.variables if own[1] == code]), len(self.cells(code)),
            tuple(self.slot(own) for own in self.names[code] if own in self.captured), self.planned(self.plain[code]),
        ) for code in range(self.codes + 1))


class Going(Exception):
    """One step too many would begin."""


class Failed(Exception):
    """A run fails by a value."""


class Returned(Exception):
    """A call is left with a value."""


class Broken(Exception):
    """A while is left."""


class Meaning:
    """Section 9, by recursion: an ARRAY is a list, a FUNCTION a triple, each in a list that tells it from others."""

    def __init__(self, tree, most):
        self.most = most
        self.steps = 0
        self.shown = []
        self.objects = []
        self.end = ("done",)
        try:
            self.block(tree, {})
        except Going:
            self.end = ("going",)
        except Failed as failed:
            self.end = ("failed", self.showing(failed.args[0]))

    def outcome(self):
        return (tuple(self.shown), self.end)

    def step(self):
        if self.steps == self.most:
            raise Going
        self.steps += 1

    def new(self, item):
        self.objects.append(item)
        return ("@", len(self.objects) - 1)

    def item(self, value, kind):
        if kind_of(value) != "reference" or not isinstance(self.objects[value[1]], kind):
            raise Failed("kind")
        return self.objects[value[1]]

    def showing(self, value):
        if kind_of(value) != "reference":
            return showing(value, None, None)
        item = self.objects[value[1]]
        return f"array {len(item)}" if isinstance(item, list) else f"function {len(item[0])}"

    def want(self, value, kind):
        if kind_of(value) != kind:
            raise Failed("kind")
        return value

    def told(self, pair):
        if not pair[0]:
            raise Failed(pair[1])
        return pair[1]

    def block(self, block, there):
        there = dict(there)
        for statement in block:
            self.step()
            if statement[0] == "let" and statement[2][0] == "function":
                cell = there[statement[1]] = [None]
                cell[0] = self.value(statement[2], there)
            elif statement[0] == "let":
                value = self.value(statement[2], there)
                there[statement[1]] = [value]
            else:
                self.statement(statement, there)

    def statement(self, part, there):
        word = part[0]
        if word == "set":
            there[part[1]][0] = self.value(part[2], there)
        elif word == "setitem":
            row, place, value = [self.value(own, there) for own in part[1:]]
            self.place(row, place)[place] = value
        elif word == "show":
            self.shown.append(self.showing(self.value(part[1], there)))
        elif word == "fail":
            raise Failed(self.value(part[1], there))
        elif word == "return":
            raise Returned(self.value(part[1], there))
        elif word == "do":
            self.value(part[1], there)
        elif word == "if":
            self.block(part[2] if self.want(self.value(part[1], there), "truth") else part[3], there)
        elif word == "while":
            try:
                while self.want(self.value(part[1], there), "truth"):
                    self.block(part[2], there)
            except Broken:
                pass
        elif word == "break":
            raise Broken
        else:
            try:
                self.block(part[1], there)
            except Failed as failed:
                value = failed.args[0]
            else:
                return
            self.block(part[3], {**there, part[2]: [value]})

    def place(self, row, place):
        row = self.item(row, list)
        self.want(place, "number")
        if place < 0 or place >= len(row):
            raise Failed("place")
        return row

    def value(self, part, there):
        self.step()
        word = part[0]
        if word == "constant":
            return part[1]
        if word == "name":
            return there[part[1]][0]
        if word == "function":
            # A copy: the BLOCK's own dict gets what is let later, which the function must not see.
            return self.new((part[1], part[2], dict(there)))
        if word in ("both", "either"):
            first = self.want(self.value(part[1], there), "truth")
            return first if first == (word == "either") else self.want(self.value(part[2], there), "truth")
        inner = [self.value(own, there) for own in self.inner(part)]
        if word == "call":
            return self.call(inner[0], inner[1:])
        if word == "array":
            return self.new(inner)
        if word == "many":
            if not 0 <= self.want(inner[0], "number") <= 1000:
                raise Failed("range")
            return self.new([inner[1]] * inner[0])
        if word == "item":
            return self.place(*inner)[inner[1]]
        if word == "length":
            return len(self.item(inner[0], list))
        return self.told((one_result if word == "one" else two_result)(part[1], *inner))

    def inner(self, part):
        if part[0] == "call":
            return [part[1], *part[2]]
        if part[0] == "array":
            return part[1]
        return [own for own in part[1:] if isinstance(own, tuple)]

    def call(self, function, values):
        names, block, there = self.item(function, tuple)
        if len(names) != len(values):
            raise Failed("count")
        try:
            self.block(block, {**there, **{name: [value] for name, value in zip(names, values)}})
        except Returned as returned:
            return returned.args[0]
        return None
