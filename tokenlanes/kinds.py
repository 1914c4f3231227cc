"""Tests of any values for the kinds that the arguments have."""


def is_whole(value):
    """Return whether any value is an integer."""
    # A bool is an int for Python, but not an integer for this package.
    return isinstance(value, int) and not isinstance(value, bool)


def is_between(value, low, high):
    """Return whether any value is an integer from low to high."""
    return is_whole(value) and low <= value <= high


def is_list_between(value, low, high):
    """Return whether any value is a list of integers from low to high."""
    if not isinstance(value, list):
        return False
    return all([is_between(item, low, high) for item in value])


def is_lane_pair(value, lane_count):
    """Return whether any value is a tuple of two lanes."""
    if not isinstance(value, tuple) or len(value) != 2:
        return False
    return all([is_between(lane, 0, lane_count - 1) for lane in value])


def is_gate(value, lane_count):
    """Return whether any value is a tuple of two different lanes."""
    return is_lane_pair(value, lane_count) and value[0] != value[1]
