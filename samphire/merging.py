"""What is done with parcels that are apart: two of them, and two of a list."""


def parts_of(parcels):
    """Return the list of all parts of parcels."""
    return [part for parts, sample in parcels for part in parts]


def put_together(first, second, dice):
    """Return the parcel merged of two that are apart."""
    parts, sample = first
    other_parts, other = second
    return (tuple(sorted(parts + other_parts)), sample.merge(other, dice))


def with_new(rows, i, j, new):
    """Return the list without what stands at two places, and with something new behind the others."""
    return [row for place, row in enumerate(rows) if place not in (i, j)] + [new]


def pairs_of(number):
    """Return the ascending list of the pairs (i, j) of numbers from 0 with i less than j, and j less than a number."""
    return [(i, j) for i in range(number) for j in range(i + 1, number)]
