"""The lines of a desk that change something.

Each is obeyed by a function that is passed the state of the desk and the words of the line, as many as there
must be, and returns the answer. It raises Refused ahead of any change.
"""

from samphire.dice import Mixer, Tape
from samphire.errors import SharedKey, SharedPart
from samphire.reader import item_of, word_fault
from samphire.report import integer_of
from samphire.state import Refused, require_plan, store_of, stores_of
from samphire.store import MOST_GROUPS, Plan, Store, check_plan
from samphire.things import is_name


def rule_of(kind, word):
    """Return the pair (kind, size) that two words write. Raises Refused."""
    size = integer_of(word)
    if size is None:
        # What is no integer is refused like 0, which is no size either.
        size = 0
    reason = check_plan({}, (kind, size))
    if reason is not None:
        raise Refused(reason)
    return (kind, size)


def add_rule(state, words):
    """Obey `rule GROUP KIND SIZE`."""
    group = words[1]
    if not is_name(group):
        raise Refused("group")
    if group in state.rules:
        raise Refused("taken")
    if len(state.rules) == MOST_GROUPS:
        raise Refused("many")
    state.rules[group] = rule_of(words[2], words[3])
    return [f"rules {len(state.rules)}"]


def make_plan(state, words):
    """Obey `others KIND SIZE`."""
    state.plan = Plan(state.rules, rule_of(words[1], words[2]))
    state.rules = {}
    state.stores = {}
    return [f"plan {len(state.plan.places())}"]


def numbers_of(words):
    """Return the list of the integers of at least 0 that words write. Raises Refused."""
    numbers = [integer_of(word) for word in words]
    for number in numbers:
        if number is None or number < 0:
            raise Refused("number")
    return numbers


def take_seed(state, words):
    """Obey `seed N`."""
    state.dice = Mixer(numbers_of(words[1:])[0])
    return ["dice"]


def take_tape(state, words):
    """Obey `tape N ..`."""
    state.dice = Tape(numbers_of(words[1:]))
    return ["dice"]


def add_node(state, words):
    """Obey `node NAME`."""
    require_plan(state)
    name = words[1]
    if not is_name(name):
        raise Refused("name")
    # The store of a node has the part of the node's own name, too.
    if name in [part for store in state.stores.values() for part in store.parts]:
        raise Refused("taken")
    state.stores[name] = Store(state.plan, [name])
    return [f"nodes {len(state.stores)}"]


def number_kept(store):
    """Return the number of items that all samples of a store have kept."""
    return sum([len(store.sample(place).kept) for place in store.plan.places()])


def put_item(state, words):
    """Obey `put NODE KEY GROUP WEIGHT AMOUNT`."""
    store = store_of(state, words[1])
    fault = word_fault(words[2:])
    if fault is not None:
        raise Refused(fault[1])
    try:
        store.put(item_of(words[2:]), state.dice)
    except SharedKey:
        raise Refused("shared")
    return [f"kept {number_kept(store)}"]


def merge_nodes(state, words):
    """Obey `merge NODE OTHER`."""
    name, other = words[1:]
    first, second = stores_of(state, [name, other])
    if name == other:
        raise Refused("same")
    try:
        store = first.merged(second, state.dice)
    except (SharedPart, SharedKey):
        raise Refused("shared")
    state.stores[name] = store
    del state.stores[other]
    return [f"kept {number_kept(store)}"]


CHANGES = {
    "rule": add_rule,
    "others": make_plan,
    "seed": take_seed,
    "tape": take_tape,
    "node": add_node,
    "put": put_item,
    "merge": merge_nodes,
}


def changed(state, words):
    """Return the answer to a line that changes something. Raises Refused."""
    action = CHANGES[words[0]]
    return action(state, words)
