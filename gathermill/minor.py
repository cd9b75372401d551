"""Minor collections: OBJECTS that are still needed are moved out of the nursery."""

from gathermill.errors import Unfit
from gathermill.layout import many_in
from gathermill.store import Store, memory_of
from gathermill.tuples import frozen
from gathermill.values import is_reference


def minor(memory, roots):
    """The pair of the MEMORY and the roots that come of a minor collection."""
    store = Store(frozen(memory))
    roots = near_roots(store, roots)
    moved = move_young(store, roots)
    return (memory_of(store), tuple([with_new_address(root, moved) for root in roots]))


def minor_moves(memory, roots):
    """The tuple of the pairs (old address, new address) of the OBJECTS that a minor collection moves."""
    store = Store(frozen(memory))
    return tuple(list(move_young(store, near_roots(store, roots)).items()))


def near_roots(store, roots):
    """The roots, made of tuples, whose REFERENCES must lead to OBJECTS in the nursery or here."""
    roots = frozen(roots)
    if not all([store.is_near(root[1]) for root in roots if is_reference(root)]):
        raise Unfit()
    return roots


def with_new_address(value, moved):
    """A VALUE, or what is none, that leads to the new address if it leads to an OBJECT that was moved."""
    if is_reference(value) and value[1] in moved:
        return ("@", moved[value[1]])
    return value


def move_young(store, roots):
    """Does a minor collection but for the roots; a dict of the new addresses by the old ones, in the order of moves."""
    first = store.free
    moved = {}
    remembered = sorted(store.remembered)
    move_led(store, roots, moved)
    move_led(store, [store.words[address] for address in remembered], moved)
    # What is moved stands behind first, one OBJECT behind the other, and moves what it leads to behind itself.
    at = first
    while at < store.free:
        behind = at + 1 + many_in(store.words[at])
        move_led(store, store.words[at + 1:behind], moved)
        at = behind
    for address in remembered + list(range(first, store.free)):
        store.words[address] = with_new_address(store.words[address], moved)
    store.clear_nursery()
    store.remembered = {}
    return moved


def move_led(store, members, moved):
    """Moves those OBJECTS of the nursery to which some VALUES lead, and which are not moved yet."""
    for value in members:
        if is_reference(value) and value[1] < store.nursery and value[1] not in moved:
            moved[value[1]] = store.free
            store.free = store.move(value[1], store.free)
