"""A memory that is changed in place."""

from gathermill.layout import FREE, first_of_half, is_header, many_in
from gathermill.objects import header_of, members_of
from gathermill.values import is_reference, words_of


class Store:
    """The parts of a MEMORY: words a list, remembered a dict of addresses."""

    def __init__(self, memory):
        room, nursery, words, young, half, free, scan, left, remembered = memory
        self.room = room
        self.nursery = nursery
        self.words = list(words)
        self.young = young
        self.half = half
        self.free = free
        self.scan = scan
        self.left = left
        self.remembered = {address: True for address in remembered}

    def first_here(self):
        """The first address here."""
        return first_of_half(self.room, self.nursery, self.half)

    def first_there(self):
        """The first address there."""
        return first_of_half(self.room, self.nursery, 1 - self.half)

    def used(self):
        """How many words are used."""
        return self.young + self.free - self.first_here() + self.left

    def is_near(self, address):
        """Whether an OBJECT in the nursery or here begins at an address."""
        first = self.first_here()
        if not 0 <= address < self.nursery and not first <= address < first + self.room:
            return False
        return is_header(self.words[address])

    def is_there(self, address):
        """Whether an address is one there."""
        first = self.first_there()
        return first <= address < first + self.room

    def put_word(self, address, value):
        """Puts a VALUE into a word, and remembers the address if the nursery must not forget it."""
        self.words[address] = value
        if address >= self.nursery and is_reference(value) and value[1] < self.nursery:
            self.remembered[address] = True
        elif address in self.remembered:
            del self.remembered[address]

    def put_object(self, address, item):
        """Puts an OBJECT where all words are free."""
        self.words[address] = header_of(item)
        for at, value in enumerate(members_of(item), address + 1):
            self.put_word(at, value)

    def put_new(self, item):
        """Puts a new OBJECT into the nursery, or here if it is greater, and tells its address."""
        words = words_of(item)
        if words <= self.nursery:
            address = self.young
            self.young += words
        else:
            address = self.free
            self.free += words
        self.put_object(address, item)
        return address

    def move(self, address, target):
        """Moves an OBJECT to where all words are free; its old words stay. Tells the address behind it."""
        behind = address + 1 + many_in(self.words[address])
        size = behind - address
        self.words[target:target + size] = self.words[address:behind]
        return target + size

    def clear_nursery(self):
        """Makes the nursery free."""
        self.words[:self.nursery] = [FREE] * self.nursery
        self.young = 0


def memory_of(store):
    """The MEMORY of a Store."""
    return (
        store.room, store.nursery, tuple(store.words), store.young, store.half, store.free, store.scan, store.left,
        tuple(sorted(store.remembered)),
    )
