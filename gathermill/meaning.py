"""What a TREE means: its run without LIMITS, step by step."""

from gathermill.evaluation import run_of
from gathermill.scopes import scopes_of
from gathermill.tuples import frozen


def meaning_of(tree, most):
    """The OUTCOME of the run of a TREE, which goes on if more than most steps would be begun."""
    run = checked_run(tree, most)
    return (tuple(run.shown), run.end)


def steps_of(tree, most):
    """How many steps the run of a TREE has; None if it would go on behind most steps."""
    run = checked_run(tree, most)
    return None if run.end == ("going",) else run.steps


def checked_run(tree, most):
    """The run of a TREE whose NAMES are in order."""
    tree = frozen(tree)
    scopes_of(tree)
    return run_of(tree, most)
