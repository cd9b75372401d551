"""A desk at work: how requests are replied."""

from gathermill.errors import BadText, CanNot, Misplaced, NoName, Refused, Twice, Unfit
from gathermill.held_run import do_codes, do_limits, do_read, do_schedule, do_text, do_turn, do_whole
from gathermill.holds import breaches
from gathermill.images import image_of
from gathermill.memory import used_words
from gathermill.rooms import live_in


def joined(parts):
    """Parts with a blank between two, - if there are none."""
    return " ".join([str(part) for part in parts]) if parts else "-"


def answer_shown(held):
    """What was shown, line by line."""
    shown = held[3][2]
    return "\n".join(list(shown)) if shown else "-"


def answer_end(held):
    """Whether the run goes on, or how it ended."""
    end = held[3][3]
    return "going" if end is None else joined(end)


def answer_turns(held):
    """How many turns are done."""
    return joined([held[4]])


def answer_frames(held):
    """How many FRAMES there are."""
    return joined([len(held[3][0])])


def answer_at(held):
    """Code and place of the running FRAME."""
    frames = held[3][0]
    return joined(frames[-1][:2] if frames else [])


def answer_words(held):
    """Used words, live words, room."""
    mill = held[3]
    return joined([used_words(mill[1]), live_in(mill), mill[1][0]])


def answer_breaches(held):
    """The sentences that the MILL breaks."""
    return joined(breaches(held[3]))


def answer_image(held):
    """The image of the MILL."""
    return image_of(held[3])


DEEDS = {
    "text": do_text,
    "codes": do_codes,
    "limits": do_limits,
    "schedule": do_schedule,
    "turn": do_turn,
    "whole": do_whole,
    "read": do_read,
}
ANSWERS = {
    "shown": answer_shown,
    "end": answer_end,
    "turns": answer_turns,
    "frames": answer_frames,
    "at": answer_at,
    "words": answer_words,
    "breaches": answer_breaches,
    "image": answer_image,
}


class Desk:
    """What is held, and what was held ahead of each deed, beside its word."""

    def __init__(self, held):
        self.held = held
        self.done = []

    def work(self, request):
        """Does or answers a request and tells the reply; an error if it is refused."""
        word = request.first_word()
        if word in ANSWERS:
            answer = ANSWERS[word]
            return answer(self.held)
        if word == "undo":
            return self.undo()
        deed = DEEDS[word]
        held = deed(self.held, request)
        self.done.append((word, self.held))
        self.held = held
        return "done"

    def undo(self):
        """Takes the last deed back, and tells its word."""
        if not self.done:
            raise CanNot()
        word, held = self.done.pop()
        self.held = held
        return word

    def reply(self, request):
        """The reply to a request."""
        try:
            return self.work(request)
        except BadText:
            refused = "BadText"
        except NoName:
            refused = "NoName"
        except Twice:
            refused = "Twice"
        except Misplaced:
            refused = "Misplaced"
        except Refused:
            refused = "Refused"
        except CanNot:
            refused = "CanNot"
        except Unfit:
            refused = "Unfit"
        return joined(["refused", refused])
