"""Plans, which tell what samples are kept of which groups, and the stores that keep them."""

from samphire.conditions import held_items
from samphire.errors import InvalidPlan, OtherPlan, SharedPart, UnknownWhat
from samphire.estimates import estimate
from samphire.optimal import Optimal
from samphire.ratios import sum_of
from samphire.samples import MOST_SIZE, check_keys, least_twice
from samphire.things import is_name
from samphire.uniform import Uniform
from samphire.weighted import Weighted

MOST_GROUPS = 20
KINDS = ("uniform", "weighted", "optimal")
WHATS = ("number", "weight", "amount")


def check_plan(rules, others):
    """Return None, or the reason against a plan."""
    pairs = list(rules.values()) + [others]
    if len(rules) > MOST_GROUPS:
        return "many"
    if not all([is_name(group) for group in rules]):
        return "group"
    if not all([kind in KINDS for kind, size in pairs]):
        return "kind"
    if not all([1 <= size <= MOST_SIZE for kind, size in pairs]):
        return "size"
    return None


class Plan:
    """What kind of sample, and of which size, is kept of each of some groups, and of all others together."""

    def __init__(self, rules, others):
        reason = check_plan(rules, others)
        if reason is not None:
            raise InvalidPlan(reason)
        self._rules = dict(rules)
        self._others = others

    def place_of(self, group):
        """Return the group, or None if it belongs to the others."""
        if group in self._rules:
            return group
        return None

    def places(self):
        """Return the list of the groups of the plan in ascending order, with None behind them."""
        return sorted(self._rules) + [None]

    def rule(self, place):
        """Return the pair (kind, size) of a place."""
        if place is None:
            return self._others
        return self._rules[place]


def same_plan(plan, other):
    """Return True if two plans are equal."""
    rows = [(place, plan.rule(place)) for place in plan.places()]
    return rows == [(place, other.rule(place)) for place in other.places()]


def check_plans(store, other):
    """Raise OtherPlan unless two stores have equal plans."""
    if not same_plan(store.plan, other.plan):
        raise OtherPlan()


def empty_sample(rule):
    """Return the sample of no item for a pair (kind, size)."""
    kind, size = rule
    if kind == "uniform":
        return Uniform.empty(size)
    if kind == "weighted":
        return Weighted.empty(size)
    return Optimal.empty(size)


def single_sample(rule, item):
    """Return the sample of one item for a pair (kind, size)."""
    kind, size = rule
    if kind == "uniform":
        return Uniform.single(item, size)
    if kind == "weighted":
        return Weighted.single(item, size)
    return Optimal.single(item, size)


def known_exactly(sample):
    """Return the pair (word, integer) of what a sample knows exactly of all items that it stands for."""
    if isinstance(sample, Uniform):
        return ("number", sample.seen)
    if isinstance(sample, Weighted):
        return ("weight", sample.total)
    # Weights are integers, so their sum, which the adjusted weights have as well, is one.
    return ("weight", sample.adjusted_sum()[0])


def asked_of(item, what):
    """Return what an item adds to the answer to a question."""
    if what == "number":
        return 1
    if what == "weight":
        return item[2]
    return item[3]


def summed(estimates):
    """Return the pair of the sums of estimates and of their variances; None as variance if one is None."""
    variances = [varied for found, varied in estimates]
    total = sum_of([found for found, varied in estimates])
    if None in variances:
        return (total, None)
    return (total, sum_of(variances))


class Store:
    """A store: the parts of the stream that it stands for, and a sample for each place of its plan."""

    def __init__(self, plan, parts):
        self.plan = plan
        self.parts = sorted(parts)
        self._samples = {place: empty_sample(plan.rule(place)) for place in plan.places()}

    def put(self, item, dice):
        """Put an item in. Raises SharedKey."""
        place = self.plan.place_of(item[1])
        single = single_sample(self.plan.rule(place), item)
        self._samples[place] = self._samples[place].merge(single, dice)

    def sample(self, place):
        """Return the sample of a place."""
        return self._samples[place]

    def merged(self, other, dice):
        """Return the store merged of this one and another one. Raises OtherPlan, SharedPart and SharedKey."""
        check_plans(self, other)
        part = least_twice(self.parts + other.parts)
        if part is not None:
            raise SharedPart(part)
        for place in self.plan.places():
            check_keys([self.sample(place), other.sample(place)])
        samples = {}
        for place in self.plan.places():
            samples[place] = self.sample(place).merge(other.sample(place), dice)
        new = Store(self.plan, self.parts + other.parts)
        new._samples = samples
        return new

    def answer(self, condition, what):
        """Return the answer to a question, a pair of a fraction and a fraction or None. Raises UnknownWhat."""
        if what not in WHATS:
            raise UnknownWhat(what)
        estimates = []
        for sample in self._all_samples():
            amounts = {item[0]: asked_of(item, what) for item in held_items(condition, sample.kept)}
            estimates.append(estimate(sample, amounts))
        return summed(estimates)

    def exact(self):
        """Return the list of the triples (place, word, integer) of what is known exactly."""
        found = []
        for place in self.plan.places():
            word, number = known_exactly(self.sample(place))
            found.append((place, word, number))
        return found

    def view(self):
        """Return the tuple of the tuple of the parts and the tuple of the views of the samples."""
        return (tuple(self.parts), tuple([sample.view() for sample in self._all_samples()]))

    def _all_samples(self):
        """Return the list of the samples, in the order of the places."""
        return [self._samples[place] for place in self.plan.places()]


def differences(store, other):
    """Return the list of the places in which two stores differ. Raises OtherPlan."""
    check_plans(store, other)
    return [place for place in store.plan.places() if store.sample(place).view() != other.sample(place).view()]
