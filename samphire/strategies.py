"""Lists of parcels that are merged to one, by the choices of strategies."""

from samphire.errors import EmptyList, SharedPart, TooLarge, WrongKind
from samphire.explore import Explorer
from samphire.merging import pairs_of, parts_of, put_together, with_new
from samphire.ranges import range_of
from samphire.samples import check_keys, least_twice
from samphire.uniform import Uniform
from samphire.weighted import Weighted

MOST_PARCELS = 6


def kind_of(sample):
    """Return a word for the class of a sample."""
    if isinstance(sample, Uniform):
        return "uniform"
    if isinstance(sample, Weighted):
        return "weighted"
    return "optimal"


def check_parcels(parcels):
    """Return None if the parcels are apart. Raises EmptyList, SharedPart, WrongKind and SharedKey."""
    if not parcels:
        raise EmptyList()
    shared = least_twice(parts_of(parcels))
    if shared is not None:
        raise SharedPart(shared)
    samples = [sample for parts, sample in parcels]
    for sample in samples:
        if kind_of(sample) != kind_of(samples[0]) or sample.size != samples[0].size:
            raise WrongKind()
    check_keys(samples)


def check_many(parcels):
    """Raise TooLarge if there are more parcels than may be merged, otherwise what check_parcels raises."""
    if len(parcels) > MOST_PARCELS:
        raise TooLarge("parcels")
    check_parcels(parcels)


def situation(parcels):
    """Return the tuple of the pairs (parts, view of the sample) of a list of parcels."""
    return tuple([(parts, sample.view()) for parts, sample in parcels])


def choice(parcels, strategy):
    """Return the pair of numbers that a strategy takes for a list of at least two parcels."""
    pair = strategy.get(situation(parcels))
    if pair in pairs_of(len(parcels)):
        return pair
    return (0, 1)


def last_parcel(parcels, strategy, dice):
    """Return the last parcel of a list of parcels that are apart."""
    rows = list(parcels)
    while len(rows) > 1:
        i, j = choice(rows, strategy)
        rows = with_new(rows, i, j, put_together(rows[i], rows[j], dice))
    return rows[0]


def merge_all(parcels, strategy, dice):
    """Return the last parcel. Raises as check_parcels does, and TooLarge."""
    check_many(parcels)
    return last_parcel(parcels, strategy, dice)


def law_of_merging(parcels, strategy):
    """Return the law of the view of the last parcel's sample. Raises as merge_all does, and TooLarge."""
    check_many(parcels)
    explorer = Explorer()
    while explorer.begin():
        parts, sample = last_parcel(parcels, strategy, explorer)
        explorer.end(sample.view())
    return explorer.gathered()


def reach(parcels, worth):
    """Return (least mean, greatest mean, lowest strategy, highest strategy). Raises as law_of_merging does."""
    check_many(parcels)
    return range_of(parcels, worth)
