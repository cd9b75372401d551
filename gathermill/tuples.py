"""Nested tuples: made of lists, and compared, however deep they are."""


def frozen(value):
    """The value with a tuple in the place of each list in it, at any depth."""
    if not isinstance(value, (list, tuple)):
        return value
    outer = []
    begun = [(value, [], outer)]
    while begun:
        source, built, holder = begun[-1]
        deeper = next_deep(source, built)
        if deeper is None:
            begun.pop()
            holder.append(tuple(built))
        else:
            begun.append((deeper, [], built))
    return outer[0]


def next_deep(source, built):
    """Goes on with building source anew, up to what has lists or tuples in it itself; None if there is none."""
    first = len(built)
    for at in range(first, len(source)):
        own = source[at]
        if not isinstance(own, (list, tuple)):
            built.append(own)
        elif is_flat(own):
            # Most tuples, words of memories above all, end here.
            built.append(tuple(own))
        else:
            return own
    return None


def is_flat(value):
    """Whether a list or a tuple has no list and no tuple in it."""
    for own in value:
        if isinstance(own, (list, tuple)):
            return False
    return True


def is_same(one, other):
    """Whether two values, of tuples and of what is none, are one; True and 1 are not."""
    waiting = [(one, other)]
    while waiting:
        one, other = waiting.pop()
        if isinstance(one, tuple) and isinstance(other, tuple):
            if len(one) != len(other):
                return False
            waiting.extend(list(zip(one, other)))
        elif isinstance(one, bool) != isinstance(other, bool) or one != other:
            return False
    return True
