"""The memory: a nursery and two halves, in which OBJECTS lie."""

from gathermill.errors import CanNot, NoPlace, Unfit
from gathermill.layout import FREE, is_header, many_in
from gathermill.objects import leads, members_of, with_members
from gathermill.soundness import is_sound_memory
from gathermill.store import Store, memory_of
from gathermill.tuples import frozen
from gathermill.values import words_of


def is_memory(thing):
    """Whether thing is a MEMORY."""
    return is_sound_memory(thing)


def memory_begun(room, nursery):
    """The MEMORY without OBJECTS."""
    return (room, nursery, (FREE,) * (nursery + 2 * room), 0, 0, nursery, None, 0, ())


def used_words(memory):
    """How many words are used."""
    return Store(memory).used()


def part_of(memory, address):
    """The part of the memory in which an address is."""
    room, nursery, _, _, half, _, _, _, _ = memory
    if not 0 <= address < nursery + 2 * room:
        raise NoPlace(address)
    if address < nursery:
        return "young"
    return "here" if (address - nursery) // room == half else "there"


def objects_in(memory):
    """The set of the addresses of all OBJECTS that are not moved."""
    words = frozen(memory[2])
    return tuple([address for address, word in enumerate(words) if is_header(word)])


def head_of(memory, address):
    """The HEADER of the OBJECT at an address."""
    words = memory[2]
    head = frozen(words[address]) if 0 <= address < len(words) else None
    if not is_header(head):
        raise NoPlace(address)
    return head


def object_at(memory, address):
    """The OBJECT at an address."""
    head = head_of(memory, address)
    behind = address + 1 + many_in(head)
    return with_members(head, frozen(memory[2][address + 1:behind]))


def read(memory, address, number):
    """VALUE number of the OBJECT at an address."""
    head = head_of(memory, address)
    if not 0 <= number < many_in(head):
        raise NoPlace(number)
    return frozen(memory[2][address + 1 + number])


def written(memory, address, number, value):
    """The MEMORY with another VALUE number of the OBJECT at an address."""
    read(memory, address, number)
    value = frozen(value)
    store = Store(frozen(memory))
    if head_of(memory, address)[0] == "function" or not store.is_near(address) or not are_near(store, (value,)):
        raise Unfit()
    store.put_word(address + 1 + number, value)
    return memory_of(store)


def are_near(store, members):
    """Whether all REFERENCES among some VALUES lead to OBJECTS in the nursery or here."""
    return all([not leads(value) or store.is_near(value[1]) for value in members])


def placed(memory, item):
    """The pair of the MEMORY with a new OBJECT, and its address."""
    item = frozen(item)
    store = Store(frozen(memory))
    words = words_of(item)
    if not are_near(store, members_of(item)):
        raise Unfit()
    if store.used() + words > store.room or store.nursery - store.young < words <= store.nursery:
        raise CanNot()
    address = store.put_new(item)
    return (memory_of(store), address)
