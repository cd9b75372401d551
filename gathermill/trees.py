"""TREES: whether a thing is one, the parts of one, and a text by which one is written."""

from gathermill.forms import fits, inner_parts
from gathermill.tuples import frozen
from gathermill.writing import pieces_of


def is_expression(thing):
    """Whether thing is an EXPRESSION."""
    return fits("expression", thing)


def is_statement(thing):
    """Whether thing is a STATEMENT."""
    return fits("statement", thing)


def is_tree(thing):
    """Whether thing is a TREE."""
    return fits("block", thing)


def within(part):
    """The tuple of the parts that lie directly in a part."""
    return inner_parts(frozen(part))


def leveled_parts(tree):
    """The list of the pairs (part, level) of a TREE, in text order."""
    found = []
    waiting = [(part, 1) for part in frozen(tree)[::-1]]
    while waiting:
        part, level = waiting.pop()
        found.append((part, level))
        waiting.extend([(inner, level + 1) for inner in inner_parts(part)[::-1]])
    return found


def parts_of(tree):
    """The tuple of all parts of a TREE, in text order."""
    return tuple([part for part, _ in leveled_parts(tree)])


def size_of(tree):
    """How many parts a TREE has."""
    return len(leveled_parts(tree))


def levels_of(tree):
    """How many levels a TREE has."""
    return max([level for _, level in leveled_parts(tree)], default=0)


def tree_text(tree):
    """A text by which a TREE is written, with no brackets but those that are needed."""
    written = []
    waiting = [(part, 0) for part in frozen(tree)[::-1]]
    while waiting:
        piece = waiting.pop()
        if isinstance(piece, str):
            written.append(piece)
        else:
            waiting.extend(pieces_of(piece[0], piece[1])[::-1])
    return "".join(written)
