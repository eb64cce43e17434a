"""What a desk keeps, and how a line is refused."""

from samphire.dice import Tape
from samphire.errors import SamphireError


class Refused(SamphireError):
    """A line cannot be obeyed, for a reason that the answer tells. It is caught by the desk that obeys the line."""

    def __init__(self, reason):
        super().__init__(f"refused: {reason}")
        self.reason = reason


class State:
    """A draft of rules, a plan or none, the stores of named nodes, and dice."""

    def __init__(self):
        self.rules = {}
        self.plan = None
        self.stores = {}
        self.dice = Tape([])


def require_plan(state):
    """Raise Refused if there is no plan."""
    if state.plan is None:
        raise Refused("plan")


def stores_of(state, names):
    """Return the list of the stores of the nodes with these names. Raises Refused."""
    require_plan(state)
    for name in names:
        if name not in state.stores:
            raise Refused("node")
    return [state.stores[name] for name in names]


def store_of(state, name):
    """Return the store of the node with this name. Raises Refused."""
    return stores_of(state, [name])[0]
