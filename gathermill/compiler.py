"""The compiler: the PROGRAM of a TREE, or of a text of one."""

from gathermill.emission import emission_of, told_instructions
from gathermill.names import plan_of
from gathermill.reader import tree_of


def compiled(tree):
    """The PROGRAM of a TREE."""
    codes = []
    for section, emission in emissions(tree):
        names, slots, cells, _, _ = section
        codes.append((names, slots, cells, told_instructions(emission)))
    return tuple(codes)


def compiled_text(text):
    """The PROGRAM of the TREE by which a text is written."""
    return compiled(tree_of(text))


def begins(tree):
    """The tuple with, for each CODE, the tuple of the places at which its STATEMENTS begin."""
    return tuple([tuple(emission.firsts) for _, emission in emissions(tree)])


def emissions(tree):
    """The list of the pairs (SECTION, its Emission) of a TREE."""
    return [(section, emission_of(section, code == 0)) for code, section in enumerate(plan_of(tree))]
