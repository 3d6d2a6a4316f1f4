"""Sets of rows as integers, in which each row has a bit: for searches that go through many sets."""

from mostkept.tables.conflicts import all_rivals


def mask_of(indices):
    """Return the set of the rows with these indices."""
    mask = 0
    for index in indices:
        mask = mask | (1 << index)
    return mask


def indices_in(mask):
    """Return the indices of the rows of a set, ascending."""
    found = []
    left = mask
    while left > 0:
        low = left & -left
        found.append(low.bit_length() - 1)
        left = left - low
    return tuple(found)


def rival_masks(table, rules):
    """Return the list of the sets of rivals of each row."""
    return [mask_of(found) for found in all_rivals(table, rules)]


def rivals_of(rivals, mask):
    """Return the rows that conflict with some row of a set, by the list of the rivals of each row."""
    found = 0
    for index in indices_in(mask):
        found = found | rivals[index]
    return found


def left_by(rivals, stay, go):
    """Return the rows that are not to go and conflict with none that is to stay."""
    everything = (1 << len(rivals)) - 1
    return everything & ~go & ~rivals_of(rivals, stay)


def cluster_masks(rivals, rows):
    """Return the list of the largest sets of connected rows, where only the rows of a set are there."""
    found = []
    left = rows
    while left > 0:
        cluster = 0
        reached = left & -left
        while reached > 0:
            cluster = cluster | reached
            reached = rivals_of(rivals, reached) & left & ~cluster
        found.append(cluster)
        left = left & ~cluster
    return found
