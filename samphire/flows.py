"""Flows from supplies to demands, and the cuts that bound them."""


class Growing:
    """A flow that grows along paths until it is a greatest one.

    Nodes have numbers: the supplies come first, the demands behind them.
    """

    def __init__(self, supplies, demands, arcs):
        self._demands_from = len(supplies)
        self._left = list(supplies) + list(demands)
        self._ends = [(one, self._demands_from + other) for one, other in arcs]
        self._arcs_at = [[] for _ in self._left]
        for arc, (one, other) in enumerate(self._ends):
            self._arcs_at[one].append(arc)
            self._arcs_at[other].append(arc)
        self._amounts = [0] * len(self._ends)
        self._levels = []
        self._tried = []

    def grow(self):
        """Make the flow a greatest one."""
        self._find_levels()
        while self._reaches_room():
            for start in range(self._demands_from):
                path = self._path(start)
                while path:
                    self._push(start, path)
                    path = self._path(start)
            self._find_levels()

    def amounts(self):
        """Return the list of the amounts, one for each arc."""
        return list(self._amounts)

    def cut(self):
        """Return the least cut, ascending; the flow must be a greatest one."""
        return [node for node in range(self._demands_from) if self._levels[node] is not None]

    def _onward(self, node, arc):
        """Return the node to which more can go from a node by an arc, or None."""
        one, other = self._ends[arc]
        if node == one:
            return other
        # From a demand something goes on only by taking back what flows to it.
        if self._amounts[arc] > 0:
            return one
        return None

    def _back(self, node, arc):
        """Return the node from which a node was reached by an arc."""
        one, other = self._ends[arc]
        if node == one:
            return other
        return one

    def _find_levels(self):
        """Find how many arcs each node is away from the supplies of which something is left; None if out of reach."""
        self._tried = [0] * len(self._left)
        self._levels = [None] * len(self._left)
        layer = [node for node in range(self._demands_from) if self._left[node] > 0]
        for node in layer:
            self._levels[node] = 0
        depth = 0
        while layer:
            depth += 1
            layer = self._layer_behind(layer, depth)

    def _layer_behind(self, layer, depth):
        """Give the nodes that come next behind a layer their level, and return the list of them."""
        further = []
        for node in layer:
            for arc in self._arcs_at[node]:
                other = self._onward(node, arc)
                if other is not None and self._levels[other] is None:
                    self._levels[other] = depth
                    further.append(other)
        return further

    def _has_room(self, node):
        """Return True if the node is a demand that can take more."""
        return node >= self._demands_from and self._left[node] > 0

    def _reaches_room(self):
        """Return True if a demand that can take more is within reach."""
        for node, level in enumerate(self._levels):
            if level is not None and self._has_room(node):
                return True
        return False

    def _path(self, start):
        """Return the arcs of a path from a supply to a demand that can take more; the empty list if there is none.

        Each arc leads to the next level, and arcs that led nowhere are not tried again.
        """
        path = []
        node = start
        while self._left[start] > 0 and not self._has_room(node):
            arc = self._next_arc(node)
            if arc is not None:
                path.append(arc)
                node = self._onward(node, arc)
            elif path:
                node = self._back(node, path.pop())
                self._tried[node] += 1
            else:
                return []
        return path

    def _next_arc(self, node):
        """Return the first arc not given up yet that leads from a node to the next level, or None."""
        arcs = self._arcs_at[node]
        while self._tried[node] < len(arcs):
            arc = arcs[self._tried[node]]
            other = self._onward(node, arc)
            if other is not None and self._levels[other] == self._levels[node] + 1:
                return arc
            self._tried[node] += 1
        return None

    def _push(self, start, path):
        """Let as much as possible flow along a path, whose arcs are walked forth and back by turns."""
        end = self._ends[path[-1]][1]
        amount = min([self._left[start], self._left[end]] + [self._amounts[arc] for arc in path[1::2]])
        self._left[start] -= amount
        self._left[end] -= amount
        for arc in path[::2]:
            self._amounts[arc] += amount
        for arc in path[1::2]:
            self._amounts[arc] -= amount


def greatest_flow(supplies, demands, arcs):
    """Return (size, flow, cut): a greatest flow, its size, and the least cut, ascending."""
    growing = Growing(supplies, demands, arcs)
    growing.grow()
    flow = growing.amounts()
    return (sum(flow), flow, growing.cut())


def is_flow(supplies, demands, arcs, flow):
    """Return True if the list of integers is a flow."""
    if len(flow) != len(arcs):
        return False
    left = list(supplies)
    room = list(demands)
    for (one, other), amount in zip(arcs, flow):
        if amount < 0:
            return False
        left[one] -= amount
        room[other] -= amount
    return min(left + room, default=0) >= 0


def cut_bound(supplies, demands, arcs, cut):
    """Return the bound of a cut."""
    chosen = {place: True for place in cut}
    joined = {other: True for one, other in arcs if one in chosen}
    outside = sum([supply for place, supply in enumerate(supplies) if place not in chosen])
    return outside + sum([demands[place] for place in joined])
