"""Major collections: OBJECTS that are still needed are moved from half to half, step by step."""

from gathermill.collecting import collect_whole, end_collection, flip, mend_word, step
from gathermill.errors import CanNot, Unfit
from gathermill.memory import read
from gathermill.minor import near_roots
from gathermill.store import Store, memory_of
from gathermill.tuples import frozen


def flipped(memory, roots):
    """The pair of the MEMORY and the roots behind a flip."""
    store = Store(frozen(memory))
    if store.scan is not None or store.young > 0:
        raise CanNot()
    roots = flip(store, near_roots(store, roots))
    return (memory_of(store), tuple(roots))


def collected(memory, roots):
    """The pair of the MEMORY and the roots behind one step of the collector."""
    store = Store(frozen(memory))
    roots = step(store, near_roots(store, roots))
    return (memory_of(store), tuple(roots))


def whole(memory, roots):
    """The pair of the MEMORY and the roots behind a whole collection."""
    store = Store(frozen(memory))
    roots = collect_whole(store, near_roots(store, roots))
    return (memory_of(store), tuple(roots))


def fetched(memory, address, number):
    """The pair of the MEMORY in which VALUE number of the OBJECT at an address is mended, and this VALUE."""
    read(memory, address, number)
    store = Store(frozen(memory))
    if not store.is_near(address):
        raise Unfit()
    value = mend_word(store, address + 1 + number)
    return (memory_of(store), value)


def steps_to_end(memory):
    """How many steps end the collection that goes on."""
    return end_collection(Store(frozen(memory)))
