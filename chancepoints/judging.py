"""What any value is judged by."""


def is_whole(value):
    """Whether value is a whole: True and False are none."""
    return isinstance(value, int) and not isinstance(value, bool)


def is_within(value, low, high):
    """Whether value is a whole from low to high."""
    return is_whole(value) and low <= value <= high


def is_list(value):
    """Whether value may stand where a list is expected."""
    return isinstance(value, (list, tuple))


def is_tuple_of(value, many):
    """Whether value is a tuple of this length."""
    return isinstance(value, tuple) and len(value) == many


def has_truths(value):
    """Whether True or False stands in a value of tuples, at any depth."""
    waiting = [value]
    while waiting:
        part = waiting.pop()
        if isinstance(part, bool):
            return True
        if isinstance(part, tuple):
            waiting.extend(part)
    return False


def is_same(value, told):
    """Whether any value is just told, a tuple of strings, wholes and tuples."""
    # Python takes True for 1, so equal values may still be of other kinds.
    return value == told and not has_truths(value)
