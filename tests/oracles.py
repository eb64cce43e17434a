"""What the tests work out for themselves, in other ways than the program does."""

from fractions import Fraction


class NeedsPick(Exception):
    def __init__(self, weights):
        super().__init__()
        self.weights = weights


class Script:
    """Dice that pick the numbers that are told, and cry for more behind them."""

    def __init__(self, numbers):
        self.numbers = list(numbers)

    def pick(self, weights):
        if not self.numbers:
            raise NeedsPick(list(weights))
        return self.numbers.pop(0)


class Watched:
    """Dice that note the weights of each pick, and pick as other dice do."""

    def __init__(self, dice):
        self.dice = dice
        self.rows = []

    def pick(self, weights):
        self.rows.append(list(weights))
        return self.dice.pick(weights)


class NoDice:
    """Dice that must not be asked."""

    def pick(self, weights):
        raise AssertionError("a pick was made")


def all_runs(draw, script=()):
    """The list of the triples (picks, chance, outcome) of something that draws with the dice it is given."""
    try:
        return [(list(script), Fraction(1), draw(Script(script)))]
    except NeedsPick as need:
        weights = need.weights
    found = []
    for number, weight in enumerate(weights):
        if weight:
            for picks, chance, outcome in all_runs(draw, [*script, number]):
                found.append((picks, chance * Fraction(weight, sum(weights)), outcome))
    return found


def chances_of(draw):
    """The chances of the outcomes of something that draws, as a dict."""
    found = {}
    for _, chance, outcome in all_runs(draw):
        found[outcome] = found.get(outcome, 0) + chance
    return found


def exact(pair):
    return Fraction(pair[0], pair[1])


def pair_of(number):
    number = Fraction(number)
    return (number.numerator, number.denominator)


def rows_of(chances):
    """The list of pairs (outcome, fraction) that a dict of chances is, ascending."""
    return [(outcome, pair_of(chance)) for outcome, chance in sorted(chances.items())]


def exact_rows(rows):
    """The dict of the chances of a list of pairs (outcome, fraction) without repeated outcomes."""
    found = {outcome: exact(chance) for outcome, chance in rows}
    assert len(found) == len(rows)
    return found
