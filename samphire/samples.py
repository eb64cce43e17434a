"""What the three kinds of samples have in common."""

from samphire.errors import InvalidSize, SharedKey

MOST_SIZE = 20


def check_size(size):
    """Raise InvalidSize unless a sample may have this size."""
    if not 1 <= size <= MOST_SIZE:
        raise InvalidSize(size)


def least_twice(names):
    """Return the least of the names that stands in the list more than once, or None."""
    ordered = sorted(names)
    for place in range(1, len(ordered)):
        if ordered[place] == ordered[place - 1]:
            return ordered[place]
    return None


def check_keys(samples):
    """Raise SharedKey with the least key that two of the samples have kept, if there is one."""
    key = least_twice([item[0] for sample in samples for item in sample.kept])
    if key is not None:
        raise SharedKey(key)


def weight_of(things):
    """Return the sum of the weights of a list of items."""
    return sum([item[2] for item in things])
