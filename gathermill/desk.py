"""A desk: it holds a run on the mill, and works requests."""

from gathermill.errors import BadText
from gathermill.held_run import first_held
from gathermill.requests import requests_of
from gathermill.working import Desk


def desk(text):
    """The list of the replies to the requests in a text."""
    if text == "":
        return []
    own = Desk(first_held())
    return [own.reply(request) for request in requests_of(text)]


def is_request(thing):
    """Whether thing is a string that is one request."""
    if not isinstance(thing, str):
        return False
    try:
        found = requests_of(thing)
    except BadText:
        return False
    return len(found) == 1
