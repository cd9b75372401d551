"""The heap of free runs: no OBJECT is refused, and how much room each one needs is told."""

from gathermill.heap import Heap
from gathermill.objects import held_by, leads, members_of
from gathermill.values import words_of


class FreeHeap(Heap):
    """OBJECTS in a list, and for each one the list of the numbers of those to which it leads.

    needs: for each new OBJECT the words of the live ones ahead of it and its own.
    """

    def __init__(self):
        Heap.__init__(self, [], 0)
        self.ways = []
        self.needs = []

    def put(self, reference, number, value):
        """Puts a VALUE into an ARRAY or a CELL."""
        item = self.objects[reference[1]]
        members = list(members_of(item))
        members[number] = value
        self.objects[reference[1]] = ("cell", value) if item[0] == "cell" else ("array", tuple(members))
        self.ways[reference[1]] = numbers_in(members)

    def has_room(self, frames, words):
        """Notes the need of a new OBJECT of so many words, which is not refused."""
        self.needs.append(self.live_words(frames) + words)
        return True

    def take_in(self, item):
        """Puts a new OBJECT behind all others, and tells its REFERENCE."""
        self.objects.append(item)
        self.ways.append(numbers_in(members_of(item)))
        return ("@", len(self.objects) - 1)

    def live_words(self, frames):
        """How many words the live OBJECTS have."""
        waiting = numbers_in(held_by(frames))
        found = {}
        words = 0
        while waiting:
            number = waiting.pop()
            if number not in found:
                found[number] = True
                words += words_of(self.objects[number])
                waiting.extend(self.ways[number])
        return words


def numbers_in(members):
    """The list of the numbers of the OBJECTS to which some VALUES lead, each once."""
    return list({value[1]: True for value in members if leads(value)})
