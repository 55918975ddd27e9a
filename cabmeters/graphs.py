"""What can follow for ever: nodes, such as the stands of meters, and the node and the gain of each speed from there."""


class Graph:
    """All nodes to which speeds lead from some nodes, with what each speed gains there.

    `ahead` is a function from a node to the list of the tuples (node, gain) for each speed from 0 on. The nodes
    have places: numbers from 0 on, those of the nodes to begin with first.
    """

    def __init__(self, starts, ahead):
        self._places = {}
        self._nodes = []
        # The place and the speed by which a node was found first.
        self._origins = []
        self._rows = []
        for start in starts:
            self._place_of(start, None)
        while len(self._rows) < len(self._nodes):
            at = len(self._rows)
            row = []
            for speed, (node, gain) in enumerate(ahead(self._nodes[at])):
                row.append((self._place_of(node, (at, speed)), gain))
            self._rows.append(row)

    def nodes(self):
        """Return the list of all nodes, in the order of their places."""
        return list(self._nodes)

    def rows(self):
        """Return a list that has for each place the list of the tuples (place, gain) for each speed."""
        return self._rows

    def trip_to(self, place):
        """Return a shortest trip that leads to a place from one of the nodes to begin with."""
        return _trip_back(self._origins, place)

    def _place_of(self, node, origin):
        """Return the place of a node, which gets one if it has none."""
        if node not in self._places:
            self._places[node] = len(self._nodes)
            self._nodes.append(node)
            self._origins.append(origin)
        return self._places[node]


class Gains:
    """The greatest gains that can follow from each place of a graph on, or a ring that gains for ever.

    Each gain counts `times` as much, and each tick takes `less` away.
    """

    def __init__(self, graph, times=1, less=0):
        self._rows = [[(place, times * gain - less) for place, gain in row] for row in graph.rows()]
        self._amounts = [0 for _ in self._rows]
        self._choices = [None for _ in self._rows]
        self._ring_place = self._work_out()

    def amounts(self):
        """Return the list of the greatest gains from each place on, at least 0. There has to be no ring."""
        return list(self._amounts)

    def trip_from(self, place):
        """Return a trip with the greatest gain from a place on. There has to be no ring."""
        speeds = []
        while self._choices[place] is not None:
            speeds.append(str(self._choices[place]))
            place = self._behind(place)
        return "".join(speeds)

    def ring(self):
        """Return the tuple (place, trip) of a ring that gains more than 0 and of a place on it, or None."""
        if self._ring_place is None:
            return None
        speeds = [str(self._choices[self._ring_place])]
        place = self._behind(self._ring_place)
        while place != self._ring_place:
            speeds.append(str(self._choices[place]))
            place = self._behind(place)
        return place, "".join(speeds)

    def _work_out(self):
        """Work out the amounts and choices, and return a place on a ring that gains more than 0, or None."""
        before = [[] for _ in self._rows]
        for place, row in enumerate(self._rows):
            for speed, (behind, gain) in enumerate(row):
                before[behind].append((place, speed, gain))
        # What was found last mostly follows what was found first.
        waiting = list(range(len(self._rows)))[::-1]
        unchecked = 0
        while waiting:
            raised = {}
            for behind in waiting:
                amount = self._amounts[behind]
                for place, speed, gain in before[behind]:
                    if amount + gain > self._amounts[place]:
                        self._amounts[place] = amount + gain
                        self._choices[place] = speed
                        raised[place] = True
            waiting = list(raised)
            unchecked += len(waiting)
            # Looking for a ring costs about what so many places cost that are raised.
            if unchecked >= len(self._rows):
                unchecked = 0
                ring_place = self._place_on_ring()
                if ring_place is not None:
                    return ring_place
        return None

    def _place_on_ring(self):
        """Return a place on a ring of choices, or None if there is none."""
        # Each choice was better than what its place had before, so that a ring of choices gains more than 0.
        seen = {}
        for first in range(len(self._rows)):
            place = first
            while self._choices[place] is not None and place not in seen:
                seen[place] = first
                place = self._behind(place)
            if self._choices[place] is not None and seen[place] == first:
                return place
        return None

    def _behind(self, place):
        """Return the place behind the choice of a place."""
        return self._rows[place][self._choices[place]][0]


def parting_from(node, other_node, ahead, other_ahead):
    """Return a shortest trip that does not gain the same from two nodes on, or None if there is none.

    `ahead` and `other_ahead` are functions as for a graph, for each of the two nodes and for all that follow it.
    """
    pairs = [(node, other_node)]
    origins = [None]
    leaders = {}
    _join(leaders, (0, node), (1, other_node))
    at = 0
    while at < len(pairs):
        node, other_node = pairs[at]
        for speed, (step, other_step) in enumerate(zip(ahead(node), other_ahead(other_node))):
            if step[1] != other_step[1]:
                return _trip_back(origins, at) + str(speed)
            # What parts two nodes that are joined already also parts a pair by which they were, found no later.
            if _join(leaders, (0, step[0]), (1, other_step[0])):
                pairs.append((step[0], other_step[0]))
                origins.append((at, speed))
        at += 1
    return None


def _trip_back(origins, place):
    """Return the trip to a place, from the list of the tuples (place, speed) by which each place was found first."""
    speeds = []
    while origins[place] is not None:
        place, speed = origins[place]
        speeds.append(str(speed))
    return "".join(speeds[::-1])


def _join(leaders, node, other_node):
    """Join two nodes, and return whether they were not joined before.

    Nodes are joined that have the same leader; `leaders` leads from each node to its leader in one or more steps.
    """
    leader = _leader_of(leaders, node)
    other_leader = _leader_of(leaders, other_node)
    if leader == other_leader:
        return False
    leaders[leader] = other_leader
    return True


def _leader_of(leaders, node):
    """Return the leader of a node, and make the steps to it fewer."""
    leader = node
    while leader in leaders:
        leader = leaders[leader]
    while node in leaders:
        following = leaders[node]
        leaders[node] = leader
        node = following
    return leader
