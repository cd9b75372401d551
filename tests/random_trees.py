"""Random TREES, the same ones for the same seed."""

import random

NAMES = ("a", "b", "c", "abcdefghijkl", "f", "lets")
CONSTANTS = (0, 1, 2, 3, -1, -2, 10 ** 9, -10 ** 9, True, False, None, "red", "let", "kind")
TWO = ("+", "-", "*", "/", "~", "<", "<=", "==", "!=")
EXPRESSIONS = ("constant", "name", "name", "function", "call", "call", "array", "many", "item", "length", "one", "two",
               "two", "two", "both", "either")
STATEMENTS = ("let", "let", "let", "set", "setitem", "show", "show", "fail", "return", "do", "if", "while", "break",
              "try")


class Grower:
    """Grows TREES of all forms, with whatever NAMES."""

    def __init__(self, seed):
        self.random = random.Random(seed)

    def names(self):
        return tuple(self.random.sample(NAMES, self.random.choice((0, 1, 1, 2, 3))))

    def expressions(self, depth, most=3):
        return tuple(self.expression(depth) for _ in range(self.random.randint(0, most)))

    def block(self, depth, most=3):
        return tuple(self.statement(depth) for _ in range(self.random.randint(0, most)))

    def expression(self, depth):
        form = self.random.choice(EXPRESSIONS if depth > 0 else ("constant", "name", "array"))
        if form == "constant":
            return (form, self.random.choice(CONSTANTS))
        if form == "name":
            return (form, self.random.choice(NAMES))
        if form == "function":
            return (form, self.names(), self.block(depth - 1))
        if form == "call":
            return (form, self.expression(depth - 1), self.expressions(depth - 1, 2))
        if form == "array":
            return (form, self.expressions(depth - 1) if depth > 0 else ())
        if form in ("length", "one"):
            op = () if form == "length" else (self.random.choice(("-", "not")),)
            return (form, *op, self.expression(depth - 1))
        op = (self.random.choice(TWO),) if form == "two" else ()
        return (form, *op, self.expression(depth - 1), self.expression(depth - 1))

    def statement(self, depth):
        form = self.random.choice(STATEMENTS)
        if depth <= 0 and form in ("if", "while", "try"):
            form = "show"
        if form in ("let", "set"):
            return (form, self.random.choice(NAMES), self.expression(depth - 1))
        if form == "setitem":
            return (form, *(self.expression(depth - 1) for _ in range(3)))
        if form == "break":
            return ("break",)
        if form == "if":
            return (form, self.expression(depth - 1), self.block(depth - 1), self.block(depth - 1))
        if form == "while":
            return (form, self.expression(depth - 1), self.block(depth - 1))
        if form == "try":
            return (form, self.block(depth - 1), self.random.choice(NAMES), self.block(depth - 1))
        return (form, self.expression(depth - 1))


class Programmer:
    """Grows TREES whose NAMES are in order, and whose runs go some way: VALUES are mostly of the kinds asked for."""

    def __init__(self, seed):
        self.random = random.Random(seed)
        self.there = []
        self.taken = [set()]
        self.inside = [(False, False)]

    def chance(self, hundredths):
        return self.random.randrange(100) < hundredths

    def known(self, kind):
        """A NAME that means a variable of this kind, or None."""
        means = dict(self.there)
        found = [name for name, own in means.items() if own == kind]
        return self.random.choice(found) if found else None

    def block(self, depth, in_function=None, in_while=None, begins=()):
        height = len(self.there)
        here = self.inside[-1]
        self.inside.append((here[0] if in_function is None else in_function, here[1] if in_while is None else in_while))
        self.taken.append({name for name, _ in begins})
        self.there.extend(begins)
        told = []
        for _ in range(self.random.randint(1, 4)):
            told.extend(self.statements(depth))
        del self.there[height:]
        self.taken.pop()
        self.inside.pop()
        return tuple(told)

    def expression(self, kind, depth):
        if self.chance(3):
            kind = self.random.choice(("number", "truth", "array", "function", "word"))
        if self.chance(45) and self.known(kind):
            return ("name", self.known(kind))
        if depth <= 0:
            return self.leaf(kind)
        if self.chance(15):
            return self.call(depth) if kind == "number" else self.leaf(kind)
        grow = {"number": self.number, "truth": self.truth, "array": self.array, "function": self.function}
        return grow.get(kind, lambda depth: self.leaf(kind))(depth - 1)

    def leaf(self, kind):
        if kind == "number":
            return ("constant", 10 ** 9 if self.chance(2) else self.random.choice((0, 0, 1, 1, 2, 3, 5, -1, -2)))
        if kind == "truth":
            return ("constant", self.chance(50))
        if kind == "array":
            return ("array", (("constant", 1), ("constant", 2), ("constant", 3)))
        if kind == "function":
            return ("function", ("k",), (("return", ("name", "k")),))
        return ("constant", self.random.choice(("red", "kind", None)))

    def number(self, depth):
        form = self.random.choice(("two", "two", "item", "length", "one"))
        if form == "two":
            op = self.random.choice(("+", "+", "-", "-", "*", "/", "~"))
            return (form, op, self.expression("number", depth), self.expression("number", depth))
        if form == "item":
            return (form, self.expression("array", depth), self.expression("number", 0 if self.chance(80) else depth))
        return (form, self.expression("array", depth)) if form == "length" else (
            form, "-", self.expression("number", depth))

    def truth(self, depth):
        form = self.random.choice(("two", "two", "both", "either", "one"))
        if form == "one":
            return (form, "not", self.expression("truth", depth))
        if form == "two":
            op = self.random.choice(("<", "<=", "==", "!="))
            kind = "number" if op[0] == "<" else self.random.choice(("number", "array", "truth", "function"))
            return (form, op, self.expression(kind, depth), self.expression(kind, depth))
        return (form, self.expression("truth", depth), self.expression("truth", depth))

    def array(self, depth):
        if self.chance(40):
            return ("many", self.expression("number", depth), self.expression("number", depth))
        return ("array", tuple(self.expression("number", depth) for _ in range(self.random.randint(0, 4))))

    def function(self, depth, name=None):
        """Mostly of one NAME, a number, and telling a number."""
        names = ("n",) if self.chance(90) else ("n", "m")
        begins = [(own, "number") for own in names]
        told = self.block(depth, True, False, begins)
        if name is not None and self.chance(60):
            less = ("two", "-", ("name", "n"), ("constant", 1))
            test = ("two", "<=", ("name", "n"), ("constant", 0))
            told = (("if", test, (("return", ("constant", 0)),), ()), *told, ("do", ("call", ("name", name), (less,))))
        self.there.extend(begins)
        value = self.expression("number", depth)
        del self.there[len(self.there) - len(begins):]
        return ("function", names, (*told, ("return", value)) if self.chance(80) else told)

    def call(self, depth):
        return ("call", self.expression("function", depth - 1), (self.expression("number", depth - 1),))

    def statements(self, depth):
        """One STATEMENT, or a loop with its counter."""
        form = self.random.choice(("let", "let", "let", "set", "setitem", "show", "show", "show", "do", "if", "while",
                                   "try", "try", "try", "leave", "fail"))
        if form == "let" or not self.there:
            return self.let(depth)
        if form == "set":
            kind = self.random.choice(("number", "array", "truth"))
            return [(form, self.known(kind), self.expression(kind, depth))] if self.known(kind) else []
        if form == "setitem":
            return [(form, self.expression("array", 1), self.expression("number", 1), self.expression("number", depth))]
        if form == "fail":
            return [(form, self.expression("word", depth))] if self.chance(15) else []
        if form == "leave":
            return self.leave(depth)
        if depth <= 0 or form in ("show", "do"):
            kind = self.random.choice(("number", "number", "truth", "array", "function", "word"))
            return [("show" if form == "show" else "do", self.expression(kind, depth))]
        if form == "if":
            return [(form, self.expression("truth", depth - 1), self.block(depth - 1), self.block(depth - 1))]
        if form == "try":
            name = self.random.choice(NAMES)
            return [(form, self.block(depth - 1), name, self.block(depth - 1, begins=[(name, "word")]))]
        return self.loop(depth)

    def leave(self, depth):
        if self.inside[-1][0] and self.chance(30):
            return [("return", self.expression("number", depth))]
        return [("break",)] if self.inside[-1][1] and self.chance(50) else []

    def let(self, depth):
        names = [name for name in NAMES if name not in self.taken[-1]]
        if not names:
            return []
        name = self.random.choice(names)
        self.taken[-1].add(name)
        if self.chance(35):
            self.there.append((name, "function"))
            return [("let", name, self.function(depth - 1, name))]
        kind = self.random.choice(("number", "number", "array", "truth"))
        value = self.expression(kind, depth)
        # What would be a function by chance could mean its own NAME.
        if value[0] == "function":
            value = ("array", (value,))
        self.there.append((name, kind))
        return [("let", name, value)]

    def loop(self, depth):
        name = "i" * (depth + 1)
        if name in self.taken[-1]:
            return []
        self.taken[-1].add(name)
        test = ("two", "<", ("name", name), ("constant", self.random.randint(0, 4)))
        count = ("set", name, ("two", "+", ("name", name), ("constant", 1)))
        block = self.block(depth - 1, None, True)
        return [("let", name, ("constant", 0)), ("while", test, (count, *block))]


def random_tree(seed, depth=4, most=5):
    """A random TREE of at most depth and some levels."""
    return Grower(seed).block(depth, most)


def random_program(seed, depth=4):
    """A random TREE that has a PLAN."""
    return Programmer(seed).block(depth)
