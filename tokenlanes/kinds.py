"""Tests of any values for the kinds that the arguments have."""


def is_between(value, low, high):
    """Return whether any value is an integer from low to high."""
    # A bool is an int for Python, but not an integer for this package.
    if not isinstance(value, int) or isinstance(value, bool):
        return False
    return low <= value <= high


def is_list_between(value, low, high):
    """Return whether any value is a list of integers from low to high."""
    if not isinstance(value, list):
        return False
    return all([is_between(item, low, high) for item in value])


def is_gate(value, lane_count):
    """Return whether any value is a tuple of two different lanes."""
    if not isinstance(value, tuple) or len(value) != 2:
        return False
    first, second = value
    last = lane_count - 1
    return is_between(first, 0, last) and is_between(second, 0, last) and first != second
