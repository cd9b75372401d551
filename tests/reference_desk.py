"""Section 24 of the document written down once more, by the functions of the other sections."""

from gathermill.checker import holds, table_of
from gathermill.codes import program_read
from gathermill.compiler import compiled_text
from gathermill.errors import CanNot, Refused, Unfit
from gathermill.holds import breaches
from gathermill.images import image_of, mill_read
from gathermill.major import whole
from gathermill.memory import used_words
from gathermill.mill import mill_begun, mill_stepped, roots_of, with_roots
from gathermill.sights import sight
from gathermill.values import words_of
from tests.examples_of_document import ERRORS


class PlainDesk:
    """Works requests told as pairs (words, text or None)."""

    def __init__(self):
        self.held = {"program": ((0, 0, 0, (("halt",),)),), "limits": (200, 40, 20), "schedule": (1,)}
        self.begin()
        self.undone = []

    def begin(self):
        self.held["mill"] = mill_begun(self.held["program"], self.held["limits"])
        self.held["turns"] = 0

    def reply(self, words, text):
        before = dict(self.held)
        try:
            return self.work(words, text, before)
        except tuple(ERRORS.values()) as raised:
            self.held = before
            return "refused " + type(raised).__name__

    def work(self, words, text, before):
        word, numbers = words[0], tuple(map(int, words[1:]))
        if word == "undo":
            if not self.undone:
                raise CanNot
            word, self.held = self.undone.pop()
            return word
        if word in ("text", "codes", "limits", "schedule", "turn", "whole", "read"):
            self.deed(word, numbers, text)
            self.undone.append((word, before))
            return "done"
        return self.answer(word) or "-"

    def deed(self, word, numbers, text):
        held = self.held
        if word in ("turn", "whole") and held["mill"][3] is not None:
            raise CanNot
        if word == "text":
            held["program"] = compiled_text(text)
            self.begin()
        elif word == "codes":
            program = program_read(text)
            try:
                table_of(program)
            except Refused:
                raise Refused(0, 0) from None
            held["program"] = program
            self.begin()
        elif word == "limits":
            if numbers[1] < 4 or numbers[2] == 0:
                raise Unfit
            held["limits"] = numbers
            self.begin()
        elif word == "schedule":
            held["schedule"] = numbers
        elif word == "turn":
            for _ in range(numbers[0]):
                if held["mill"][3] is None:
                    steps = held["schedule"][held["turns"] % len(held["schedule"])]
                    held["mill"] = mill_stepped(held["program"], held["mill"], held["limits"], steps)
                    held["turns"] += 1
        elif word == "whole":
            frames, memory, shown, end = held["mill"]
            memory, roots = whole(memory, roots_of(frames))
            held["mill"] = (with_roots(frames, roots), memory, shown, end)
        else:
            mill = mill_read(text)
            if mill[1][:2] != held["limits"][:2] or not holds(held["program"], table_of(held["program"]), sight(mill)):
                raise Unfit
            held["mill"] = mill

    def answer(self, word):
        frames, memory, shown, end = self.held["mill"]
        if word == "shown":
            return "\n".join(shown)
        if word == "end":
            return {None: "going"}.get(end) or " ".join(end)
        if word == "turns":
            return str(self.held["turns"])
        if word == "frames":
            return str(len(frames))
        if word == "at":
            return f"{frames[-1][0]} {frames[-1][1]}" if frames else ""
        if word == "words":
            live = sum(words_of(own) for own in sight(self.held["mill"])[1])
            return f"{used_words(memory)} {live} {memory[0]}"
        return " ".join(breaches(self.held["mill"])) if word == "breaches" else image_of(self.held["mill"])


def request_text(words, text):
    """A request as it stands in what a desk is given."""
    return " ".join(words) + ("" if text is None else "".join("\n " + row for row in text.split("\n")))
