"""Checks of plain values, for all modules of the package."""

ROW_LIMIT = 200


def is_whole(value):
    """Return whether the value is an integer."""
    # Python counts True and False as integers, the document does not.
    return isinstance(value, int) and not isinstance(value, bool)


def are_whole(value, many):
    """Return whether the value is a tuple of so many integers."""
    return isinstance(value, tuple) and len(value) == many and all([is_whole(one) for one in value])


def is_index(value, many):
    """Return whether the value is the index of one of so many things."""
    return is_whole(value) and 0 <= value < many


def are_indices(value, many):
    """Return whether the value is a tuple of indices of so many things, in any order."""
    return isinstance(value, tuple) and all([is_index(one, many) for one in value])


def is_ascending(values):
    """Return whether each value is less than the next one; all are of one kind."""
    return all([values[at] < values[at + 1] for at in range(len(values) - 1)])


def is_exact(value):
    """Return whether the value has no True and no False in it, which Python takes for 1 and 0."""
    if isinstance(value, tuple):
        return all([is_exact(one) for one in value])
    return not isinstance(value, bool)


def has_keys(value, keys):
    """Return whether the value is a dict with exactly these different keys, which have no True and no False in them."""
    if not isinstance(value, dict) or len(value) != len(keys):
        return False
    return all([is_exact(key) and key in keys for key in value])
