"""Nested tuples: made of lists, and compared, however deep they are."""


def frozen(value):
    """The value with a tuple in the place of each list in it, at any depth."""
    if not isinstance(value, (list, tuple)):
        return value
    outer = []
    begun = [(value, [], outer)]
    while begun:
        source, built, holder = begun[-1]
        if len(built) == len(source):
            begun.pop()
            holder.append(tuple(built))
        elif isinstance(source[len(built)], (list, tuple)):
            begun.append((source[len(built)], [], built))
        else:
            built.append(source[len(built)])
    return outer[0]


def is_same(one, other):
    """Whether two values, of tuples and of what is none, are one; True and 1 are not."""
    waiting = [(one, other)]
    while waiting:
        one, other = waiting.pop()
        if isinstance(one, tuple) and isinstance(other, tuple):
            if len(one) != len(other):
                return False
            waiting.extend(list(zip(one, other)))
        elif isinstance(one, bool) != isinstance(other, bool) or one != other:
            return False
    return True
