"""Checks of single values that every module needs."""


def is_whole(value):
    """Return True if the value is an integer as [1] means it, for any value."""
    # To Python, True and False are integers, too.
    return isinstance(value, int) and not isinstance(value, bool)


def is_index(value, count):
    """Return True if the value is an integer from 0 to count - 1, for any value."""
    return is_whole(value) and 0 <= value < count
