"""The heap of the plain machine: OBJECTS, none of which is ever taken away."""

from gathermill.objects import come_to, header_of, members_of, with_members
from gathermill.values import words_of


class Heap:
    """OBJECTS and their room.

    most: live OBJECTS have at most so many words, as far as is known.
    """

    def __init__(self, objects, room):
        self.objects = objects
        self.room = room
        self.most = sum([words_of(item) for item in objects])

    def head(self, reference):
        """The HEADER of an OBJECT."""
        return header_of(self.objects[reference[1]])

    def item(self, reference):
        """An OBJECT."""
        return self.objects[reference[1]]

    def fetch(self, reference, number):
        """VALUE number of an OBJECT."""
        return members_of(self.objects[reference[1]])[number]

    def put(self, reference, number, value):
        """Puts a VALUE into an ARRAY or a CELL."""
        at = reference[1]
        members = members_of(self.objects[at])
        changed = with_members(self.objects[at], (*members[:number], value, *members[number + 1:]))
        self.objects = (*self.objects[:at], changed, *self.objects[at + 1:])

    def has_room(self, frames, words):
        """Whether a new OBJECT of so many words is not refused, these being the FRAMES ahead of it."""
        # Live words get fewer by themselves and more by new OBJECTS alone, so they are counted only where it matters.
        if self.most + words > self.room:
            self.most = live_words_of(frames, self.objects)
        return self.most + words <= self.room

    def take_in(self, item):
        """Puts a new OBJECT behind all others, and tells its REFERENCE."""
        self.objects = (*self.objects, item)
        self.most += words_of(item)
        return ("@", len(self.objects) - 1)


def live_words_of(frames, objects):
    """How many words the live OBJECTS have."""
    return sum([words_of(objects[number]) for number in list(come_to(frames, objects))])
