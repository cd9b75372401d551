"""Collections in a memory that is changed in place."""

from gathermill.layout import FREE, is_moved, many_in
from gathermill.minor import move_young, with_new_address
from gathermill.values import is_reference


def mended(store, value):
    """A VALUE, or what is none, that does not lead there: the OBJECT to which it did is moved if it was not yet."""
    if not is_reference(value) or not store.is_there(value[1]):
        return value
    if not is_moved(store.words[value[1]]):
        move_here(store, value[1])
    return ("@", store.words[value[1]][1])


def move_here(store, address):
    """Moves an OBJECT there to the free words here."""
    target = store.free
    store.left -= 1 + many_in(store.words[address])
    store.free = store.move(address, target)
    store.words[address] = ("moved", target)


def mend_word(store, address):
    """Mends the VALUE in a word, and tells it."""
    store.words[address] = mended(store, store.words[address])
    return store.words[address]


def empty_nursery(store, roots):
    """Does a minor collection; the list of the roots that come."""
    moved = move_young(store, roots)
    return [with_new_address(root, moved) for root in roots] if moved else roots


def flip(store, roots):
    """Begins a collection when the nursery is empty; the list of the roots that come."""
    store.left = store.free - store.first_here()
    store.half = 1 - store.half
    store.free = store.first_here()
    store.scan = store.free
    return [mended(store, root) for root in roots]


def step(store, roots):
    """Does one step of the collector; the list of the roots that come."""
    if store.scan is None:
        return flip(store, empty_nursery(store, roots))
    go_on(store)
    return roots


def go_on(store):
    """Does one step of the collection that goes on."""
    if store.scan < store.free:
        mend_word(store, store.scan)
        store.scan += 1
    else:
        first = store.first_there()
        store.words[first:first + store.room] = [FREE] * store.room
        store.left = 0
        store.scan = None


def end_collection(store):
    """Does steps of the collector until no collection goes on; tells how many."""
    steps = 0
    while store.scan is not None:
        go_on(store)
        steps += 1
    return steps


def collect_whole(store, roots):
    """Does a whole collection; the list of the roots that come."""
    end_collection(store)
    roots = step(store, roots)
    end_collection(store)
    return roots
