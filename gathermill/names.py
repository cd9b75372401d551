"""The NAMES of a TREE: what they mean, its PLAN, and other NAMES for its VARIABLES."""

from gathermill.errors import CanNot, Misplaced, NoName, Twice, Unfit
from gathermill.plans import plan_by, renamed_by
from gathermill.scopes import scopes_of
from gathermill.trees import is_tree
from gathermill.tuples import frozen, is_same


def plan_of(tree):
    """The PLAN of a TREE."""
    tree = frozen(tree)
    return plan_by(scopes_of(tree), tree)


def variables(tree):
    """The tuple of the pairs (NAME, CODE) of the VARIABLES of a TREE."""
    return tuple(scopes_of(frozen(tree)).variables)


def captured(tree):
    """The set of the numbers of the VARIABLES that are captured."""
    return tuple(sorted(list(scopes_of(frozen(tree)).captured)))


def uses(tree):
    """The tuple of the numbers of the VARIABLES that the NAMES mean which are read or set."""
    return tuple(scopes_of(frozen(tree)).uses)


def alike(tree, other):
    """Whether two TREES have one PLAN."""
    return is_same(plan_of(tree), plan_of(other))


def renamed(tree, names):
    """The TREE with these NAMES for its VARIABLES."""
    tree = frozen(tree)
    scopes = scopes_of(tree)
    if len(names) != len(scopes.variables):
        raise Unfit()
    result = renamed_by(scopes, tree, names)
    if not is_tree(result):
        raise CanNot()
    try:
        plan = plan_of(result)
    except (NoName, Twice, Misplaced):
        raise CanNot() from None
    if not is_same(plan, plan_by(scopes, tree)):
        raise CanNot()
    return result
