"""A second way to find the first SIGN with which no TREE's writing goes on: all readings at once (Earley's way)."""

RULES = """
tree: block
block:
block: statement block
statement: let x = e ;
statement: x = e ;
statement: behind [ e ] = e ;
statement: show e ;
statement: fail e ;
statement: return e ;
statement: e ;
statement: choice
statement: while e { block }
statement: break ;
statement: try { block } catch x { block }
choice: if e { block }
choice: if e { block } else { block }
choice: if e { block } else choice
e: ahead
e: ahead op e
op: +
op: -
op: *
op: /
op: ~
op: <
op: <=
op: ==
op: !=
op: and
op: or
ahead: - ahead
ahead: not ahead
ahead: behind
behind: first
behind: behind ( list )
behind: behind [ e ]
list:
list: row
row: e
row: e , row
first: n
first: - n
first: w
first: true
first: false
first: nothing
first: x
first: fn ( names ) { block }
first: [ list ]
first: many ( e , e )
first: len ( e )
first: ( e )
names:
names: own
own: x
own: x , own
"""


def grammar():
    rules = {}
    for row in RULES.strip().split("\n"):
        left, _, right = row.partition(": ")
        rules.setdefault(left.rstrip(":"), []).append(tuple(right.split()))
    return rules


GRAMMAR = grammar()
EMPTY = {left for left, rights in GRAMMAR.items() if () in rights}


def terminal(sign):
    """What a SIGN is in the grammar."""
    return {"name": "x", "number": "n", "word": "w"}.get(sign[0], sign[1])


def filled(states, at):
    """All states at a place that come of those there."""
    found = dict.fromkeys(states[at])
    waiting = list(found)
    while waiting:
        left, right, dot, begin = waiting.pop()
        if dot < len(right) and right[dot] in GRAMMAR:
            more = [(right[dot], own, 0, at) for own in GRAMMAR[right[dot]]]
            if right[dot] in EMPTY:
                more.append((left, right, dot + 1, begin))
        elif dot == len(right):
            source = found if begin == at else states[begin]
            more = [(a, b, c + 1, d) for a, b, c, d in list(source) if c < len(b) and b[c] == left]
        else:
            more = []
        for state in more:
            if state not in found:
                found[state] = None
                waiting.append(state)
    return found


def first_bad(signs):
    """The place of the first SIGN that can not stand there; the number of SIGNS if only the end can not; or None."""
    states = [{("tree", ("block",), 0, 0): None}]
    for at, sign in enumerate(signs):
        states[at] = filled(states, at)
        word = terminal(sign)
        states.append({(a, b, c + 1, d): None for a, b, c, d in states[at] if c < len(b) and b[c] == word})
        if not states[-1] or is_like_name(signs, at):
            return at
    states[-1] = filled(states, len(signs))
    return None if ("tree", ("block",), 1, 0) in states[-1] else len(signs)


def is_like_name(signs, at):
    """Whether the name at this place stands among the names of a function behind another one like it."""
    if signs[at][0] != "name":
        return False
    begin = at
    while begin > 0 and signs[begin - 1][:2] in (("mark", ","),) or (begin > 0 and signs[begin - 1][0] == "name"):
        begin -= 1
    if begin < 2 or [sign[1] for sign in signs[begin - 2:begin]] != ["fn", "("]:
        return False
    return signs[at][1] in [sign[1] for sign in signs[begin:at] if sign[0] == "name"]
