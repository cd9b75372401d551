"""The heap of the mill: OBJECTS in a memory, which is gathered to make room for new ones."""

from gathermill.collecting import collect_whole, empty_nursery, go_on, mend_word, step
from gathermill.layout import many_in
from gathermill.objects import held_by, with_held, with_members


class MillHeap:
    """OBJECTS in a Store; a REFERENCE tells an address."""

    def __init__(self, store):
        self.store = store

    def head(self, reference):
        """The HEADER of an OBJECT."""
        return self.store.words[reference[1]]

    def item(self, reference):
        """An OBJECT, with its VALUES as they stand there."""
        head = self.head(reference)
        first = reference[1] + 1
        return with_members(head, tuple(self.store.words[first:first + many_in(head)]))

    def fetch(self, reference, number):
        """VALUE number of an OBJECT, mended."""
        return mend_word(self.store, reference[1] + 1 + number)

    def put(self, reference, number, value):
        """Puts a VALUE into an ARRAY or a CELL."""
        self.store.put_word(reference[1] + 1 + number, value)

    def has_room(self, frames, words):
        """Whether a new OBJECT of so many words is not refused; it is made ready, which may change the FRAMES."""
        store = self.store
        if store.used() + words > store.room:
            frames[:] = with_held(frames, collect_whole(store, held_by(frames)))
        if store.used() + words > store.room:
            return False
        if store.nursery - store.young < words <= store.nursery:
            frames[:] = with_held(frames, empty_nursery(store, held_by(frames)))
        return True

    def take_in(self, item):
        """Places a new OBJECT, and tells its REFERENCE."""
        return ("@", self.store.put_new(item))

    def gather(self, frames, steps):
        """Does so many steps of the collector, which may change the FRAMES."""
        for _ in range(steps):
            # What FRAMES hold matters only where a collection begins.
            if self.store.scan is None:
                frames[:] = with_held(frames, step(self.store, held_by(frames)))
            else:
                go_on(self.store)
