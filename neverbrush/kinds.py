"""Plain values: numbers, rows, and whether a value just is another one."""


def is_number(value):
    """Whether value is a number; True and False are none."""
    return isinstance(value, int) and not isinstance(value, bool)


def are_numbers_all(row):
    """Whether each member of row is a number."""
    return all([is_number(own) for own in row])


def as_row(value):
    """The tuple of what a list or a tuple holds; None for any other value."""
    if isinstance(value, (list, tuple)):
        return tuple(value)
    return None


def as_row_of(value, length):
    """The tuple of what a list or a tuple of this length holds; None for any other value."""
    if isinstance(value, (list, tuple)) and len(value) == length:
        return tuple(value)
    return None


def is_rising(row):
    """Whether each member of row is greater than the one ahead of it."""
    return all([row[k] < row[k + 1] for k in range(len(row) - 1)])


def is_just(thing, value):
    """Whether thing is value, a value of numbers, strings and tuples, down to the kinds.

    == would not do: for it True is 1.
    """
    if isinstance(value, tuple):
        if not isinstance(thing, tuple) or len(thing) != len(value):
            return False
        return all([is_just(thing[k], value[k]) for k in range(len(value))])
    if isinstance(value, str):
        return thing == value
    return is_number(thing) and thing == value
