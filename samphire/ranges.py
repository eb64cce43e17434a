"""The range of means that strategies can reach, and the strategies that reach its ends."""

from samphire.errors import TooLarge
from samphire.explore import Explorer
from samphire.laws import mean
from samphire.merging import pairs_of, put_together, with_new
from samphire.ratios import less

MOST_STATES = 2000


class Merges:
    """What parcels can be merged to. A parcel is known by a number, so that a situation is a tuple of numbers."""

    def __init__(self):
        self._parcels = []
        self._numbers = {}
        self._found = {}

    def number_of(self, parcel):
        """Return the number of a parcel, which is a new one if no parcel was like it."""
        parts, sample = parcel
        told = (parts, sample.view())
        if told not in self._numbers:
            self._numbers[told] = len(self._parcels)
            self._parcels.append(parcel)
        return self._numbers[told]

    def view(self, number):
        """Return the view of the sample of a parcel."""
        return self._parcels[number][1].view()

    def situation(self, row):
        """Return the situation of parcels with these numbers."""
        return tuple([(self._parcels[number][0], self.view(number)) for number in row])

    def rows_behind(self, row, pair):
        """Return the pairs (row, chance) that come of a row of numbers if a pair is merged."""
        i, j = pair
        return [(tuple(with_new(row, i, j, new)), chance) for new, chance in self._merged(row[i], row[j])]

    def _merged(self, first, second):
        """Return the law of the number of the parcel merged of two. Raises TooLarge."""
        if (first, second) not in self._found:
            explorer = Explorer()
            while explorer.begin():
                new = put_together(self._parcels[first], self._parcels[second], explorer)
                explorer.end(self.number_of(new))
            self._found[(first, second)] = explorer.gathered()
        return self._found[(first, second)]


def rows_that_come(merges, start):
    """Return a list with the rows of all numbers of parcels, from the start to one parcel. Raises TooLarge."""
    levels = [[start]]
    states = 1
    for number in range(len(start), 1, -1):
        found = {}
        for row in levels[-1]:
            for pair in pairs_of(number):
                for further, chance in merges.rows_behind(row, pair):
                    found[further] = True
            if states + len(found) > MOST_STATES:
                raise TooLarge("states")
        states += len(found)
        levels.append(list(found))
    return levels


def least_of(rows):
    """Return the one of pairs (number, pair) with the least fraction as number, the first one among several."""
    found = rows[0]
    for row in rows:
        if less(row[0], found[0]):
            found = row
    return found


def greatest_of(rows):
    """Return the one of pairs (number, pair) with the greatest fraction as number, the first one among several."""
    found = rows[0]
    for row in rows:
        if less(found[0], row[0]):
            found = row
    return found


class Reach:
    """The least and the greatest means from rows of numbers of parcels on, and the pairs that have them."""

    def __init__(self, merges, worth):
        self._merges = merges
        self._worth = worth
        self._least = {}
        self._greatest = {}
        self.lowest = {}
        self.highest = {}

    def bounds(self, row):
        """Return the least and the greatest mean from a row on that was settled."""
        return (self._least[row], self._greatest[row])

    def settle(self, row):
        """Find the bounds of a row; all rows that may come behind it must be settled."""
        if len(row) == 1:
            worth = (self._worth.get(self._merges.view(row[0]), 0), 1)
            self._least[row] = worth
            self._greatest[row] = worth
            return
        lows = []
        highs = []
        for pair in pairs_of(len(row)):
            behind = self._merges.rows_behind(row, pair)
            lows.append((mean([(self._least[further], chance) for further, chance in behind]), pair))
            highs.append((mean([(self._greatest[further], chance) for further, chance in behind]), pair))
        here = self._merges.situation(row)
        self._least[row], self.lowest[here] = least_of(lows)
        self._greatest[row], self.highest[here] = greatest_of(highs)


def range_of(parcels, worth):
    """Return the tuple (least mean, greatest mean, lowest strategy, highest strategy). Raises TooLarge."""
    merges = Merges()
    start = tuple([merges.number_of(parcel) for parcel in parcels])
    levels = rows_that_come(merges, start)
    reached = Reach(merges, worth)
    for level in levels[::-1]:
        for row in level:
            reached.settle(row)
    least, greatest = reached.bounds(start)
    return (least, greatest, reached.lowest, reached.highest)
