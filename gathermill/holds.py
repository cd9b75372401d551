"""What always holds in a MILL, told in a few sentences."""

from gathermill.errors import Unfit
from gathermill.layout import FREE, is_header, is_moved
from gathermill.mill_forms import is_quadruple
from gathermill.objects import held_by
from gathermill.seeing import seen_in
from gathermill.soundness import broken_sentences, has_parts, lay_of
from gathermill.tuples import frozen
from gathermill.values import is_tuple_of, is_value


def has_form(thing):
    """Whether thing is a MILL in form."""
    return is_quadruple(thing) and has_parts(thing[1]) and is_tuple_of(is_memory_word, thing[1][2])


def is_memory_word(thing):
    """Whether thing is what may stand in a word of a memory."""
    return is_value(thing) or is_header(thing) or is_moved(thing) or thing == FREE


def breaches(mill):
    """The tuple of the names of the sentences that a MILL in form breaks."""
    mill = frozen(mill)
    if not has_form(mill):
        raise Unfit()
    frames, memory, _, _ = mill
    lay = lay_of(memory)
    if lay is None:
        return ("laid",)
    broken = broken_sentences(memory, held_by(frames), lay)
    if not has_right_cells(memory[2], lay) or not have_right_functions(frames, lay):
        broken.append("cells")
    return tuple(broken)


def has_right_cells(words, lay):
    """Whether each VALUE of a FUNCTION that is not moved is a REFERENCE to a CELL."""
    for address, head in list({**lay.near, **lay.unmoved}.items()):
        if head[0] == "function":
            led = [lay.head(word[1]) for word in words[address + 1:address + 1 + head[2]]]
            if not all([own == ("cell",) for own in led]):
                return False
    return True


def have_right_functions(frames, lay):
    """Whether the first FRAME has no FUNCTION, and each other one has one with its CODE."""
    if not frames:
        return True
    if frames[0][4] is not None:
        return False
    return all([is_function_of(frame[4], frame[0], lay) for frame in frames[1:]])


def is_function_of(function, code, lay):
    """Whether what stands in a FRAME is a REFERENCE to a FUNCTION with this CODE."""
    head = None if function is None else lay.head(function[1])
    return head is not None and head[:2] == ("function", code)


def is_sound(mill):
    """Whether a MILL in form breaks no sentence."""
    return breaches(mill) == ()


def sound_mill(mill):
    """The MILL, made of tuples, which must break no sentence."""
    mill = frozen(mill)
    if not is_sound(mill):
        raise Unfit()
    return mill


def reached(mill):
    """The set of the addresses of the OBJECTS to which FRAMES lead."""
    return tuple(sorted(seen_in(sound_mill(mill)).order))


def reached_words(mill):
    """How many words the OBJECTS have to which FRAMES lead."""
    return seen_in(sound_mill(mill)).many_words()


def is_tight(mill):
    """Whether no collection goes on, and all OBJECTS in the nursery and here are reached."""
    mill = sound_mill(mill)
    if mill[1][6] is not None:
        return False
    return sorted(seen_in(mill).order) == sorted(lay_of(mill[1]).near)
