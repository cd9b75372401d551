"""Which OBJECTS of a memory FRAMES lead to, be they moved or not."""

from gathermill.layout import is_moved, many_in
from gathermill.objects import held_by, leads, renumbered, renumbered_frames, with_members


class Seen:
    """What FRAMES lead to in the words of a memory, in the order in which it is first come to.

    order: the list of the addresses at which the OBJECTS lie. numbers: a dict of their places in order, by these
    addresses and by old ones at which REFERENCES led to them.
    """

    def __init__(self, frames, words):
        self.words = words
        self.order = []
        self.numbers = {}
        self.note(held_by(frames))
        at = 0
        while at < len(self.order):
            self.note(self.members(self.order[at]))
            at += 1

    def members(self, address):
        """The tuple of the VALUES of the OBJECT at an address, as they stand there."""
        return self.words[address + 1:address + 1 + many_in(self.words[address])]

    def note(self, members):
        """Puts what some VALUES lead to behind the order, if it is not there yet."""
        for value in members:
            if leads(value) and value[1] not in self.numbers:
                address = address_meant(self.words, value[1])
                if address not in self.numbers:
                    self.numbers[address] = len(self.order)
                    self.order.append(address)
                self.numbers[value[1]] = self.numbers[address]

    def many_words(self):
        """How many words the OBJECTS have."""
        return sum([1 + many_in(self.words[address]) for address in self.order])

    def told(self, address):
        """An OBJECT, with numbers in the place of addresses."""
        return renumbered(with_members(self.words[address], self.members(address)), self.numbers)


def address_meant(words, address):
    """Where the OBJECT lies that lay at an address, or lies there."""
    while is_moved(words[address]):
        address = words[address][1]
    return address


def seen_in(mill):
    """What the FRAMES of a MILL, made of tuples, lead to."""
    return Seen(mill[0], mill[1][2])


def sight_of(mill):
    """The SIGHT of a MILL made of tuples."""
    frames, _, shown, end = mill
    seen = seen_in(mill)
    objects = tuple([seen.told(address) for address in seen.order])
    return (renumbered_frames(frames, seen.numbers), objects, shown, end)
