"""An explorer: dice that go through all picks, run by run."""

from samphire.errors import NotEnded, TooLarge
from samphire.laws import law_from
from samphire.ratios import ONE, lowest, times

MOST_RUNS = 20000


def next_number(weights, start):
    """Return the least number, from start on, of a weight that is not 0, or None."""
    for number in range(start, len(weights)):
        if weights[number] > 0:
            return number
    return None


def chance_behind(path):
    """Return the chance with which all picks of a path are made."""
    if not path:
        return ONE
    weights, total, number, before = path[-1]
    return times(before, lowest(weights[number], total))


def following(path):
    """Return the path with which the run behind the one with this path begins, or None if it was the last one."""
    for place in reversed(range(len(path))):
        weights, total, number, before = path[place]
        further = next_number(weights, number + 1)
        if further is not None:
            return path[:place] + [(weights, total, further, before)]
    return None


class Explorer:
    """Dice that go through all picks.

    A path is a list with a tuple for each pick: the weights, their sum, the number that is picked,
    and the chance of the picks ahead of it.
    """

    def __init__(self):
        self._path = []
        self._made = 0
        self._running = False
        self._finished = False
        self._rows = []

    def begin(self):
        """Begin the next run and return True, or return False if there is none. Raises NotEnded and TooLarge."""
        if self._running:
            raise NotEnded()
        path = []
        if self._rows:
            path = following(self._path)
        if path is None:
            self._finished = True
            return False
        if len(self._rows) == MOST_RUNS:
            raise TooLarge("runs")
        self._path = path
        self._made = 0
        self._running = True
        return True

    def pick(self, weights):
        """Return the number of one of the weights that is not 0."""
        if self._made == len(self._path):
            self._path.append((list(weights), sum(weights), next_number(weights, 0), chance_behind(self._path)))
        number = self._path[self._made][2]
        self._made += 1
        return number

    def end(self, outcome):
        """End the run with an outcome."""
        self._rows.append((outcome, chance_behind(self._path)))
        self._running = False

    def runs(self):
        """Return how many runs have ended."""
        return len(self._rows)

    def gathered(self):
        """Return the law of the outcomes. Raises NotEnded as long as there may be another run."""
        if not self._finished:
            raise NotEnded()
        return law_from(self._rows)
