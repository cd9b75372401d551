"""Works the examples of the document, which stand in the folder examples as they stand there."""

import importlib
import os

from gathermill import errors

FOLDER = os.path.join(os.path.dirname(__file__), "examples")
ERRORS = {name: own for name, own in vars(errors).items() if isinstance(own, type)}


def public_names(module):
    """What a module of the package defines itself."""
    return {name: own for name, own in vars(module).items() if getattr(own, "__module__", "") == module.__name__}


def steps_of_file(path):
    """The pairs (line of Python, what is told of it or "") of a file of examples."""
    steps = []
    with open(path, encoding="ascii") as lines:
        for line in lines.read().split("\n"):
            if line.startswith(">>> "):
                steps.append((line[4:], ""))
            elif line:
                steps[-1] = (steps[-1][0], line)
    return steps


def told_error(raised):
    """An error as its class and its attributes."""
    return (type(raised), vars(raised))


def check_step(case, code, told, known):
    """Does one line of an example and compares what comes with what the document tells."""
    if not told:
        exec(code, known)
    elif told.startswith("raises "):
        wanted = eval(told[len("raises "):], dict(ERRORS))
        with case.assertRaises(type(wanted)) as caught:
            eval(code, known)
        case.assertEqual(told_error(caught.exception), told_error(wanted), code)
    else:
        # repr tells True from 1, a tuple from a list.
        case.assertEqual(repr(eval(code, known)), repr(eval(told, dict(known))), code)


def check_file(case, number):
    """Works the examples of one section; those ahead of it are worked first, for the names that they set."""
    known = {}
    for name in sorted(os.listdir(FOLDER)):
        module = importlib.import_module("gathermill." + name[3:-4])
        known.update(public_names(module))
    for name in sorted(os.listdir(FOLDER)):
        for code, told in steps_of_file(os.path.join(FOLDER, name)):
            if name.startswith(number):
                check_step(case, code, told, known)
            elif not told and name < number:
                exec(code, known)
