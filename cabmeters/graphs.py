"""What can follow for ever: nodes, such as the stands of meters, and the node and the gain of each speed from there."""


class Graph:
    """All nodes to which speeds lead from some nodes, with what each speed gains there.

    `ahead` is a function from a node to the list of the tuples (node, gain) for each speed from 0 on. The nodes
    have places: numbers from 0 on, those of the nodes to begin with first.
    """

    def __init__(self, starts, ahead):
        self._places = {}
        self._nodes = []
        # The place and the speed by which a node was found first.
        self._origins = []
        self._rows = []
        for start in starts:
            self._place_of(start, None)
        while len(self._rows) < len(self._nodes):
            at = len(self._rows)
            row = []
            for speed, (node, gain) in enumerate(ahead(self._nodes[at])):
                row.append((self._place_of(node, (at, speed)), gain))
            self._rows.append(row)

    def nodes(self):
        """Return the list of all nodes, in the order of their places."""
        return list(self._nodes)

    def rows(self):
        """Return a list that has for each place the list of the tuples (place, gain) for each speed."""
        return self._rows

    def trip_to(self, place):
        """Return a shortest trip that leads to a place from one of the nodes to begin with."""
        speeds = []
        while self._origins[place] is not None:
            place, speed = self._origins[place]
            speeds.append(str(speed))
        return "".join(speeds[::-1])

    def _place_of(self, node, origin):
        """Return the place of a node, which gets one if it has none."""
        if node not in self._places:
            self._places[node] = len(self._nodes)
            self._nodes.append(node)
            self._origins.append(origin)
        return self._places[node]


class Gains:
    """The greatest gains that can follow from each place of a graph on, or a ring that gains for ever.

    Each gain counts `times` as much, and each tick takes `less` away.
    """

    def __init__(self, graph, times=1, less=0):
        self._rows = [[(place, times * gain - less) for place, gain in row] for row in graph.rows()]
        self._amounts = [0 for _ in self._rows]
        self._choices = [None for _ in self._rows]
        self._ring_place = self._work_out()

    def amounts(self):
        """Return the list of the greatest gains from each place on, at least 0. There has to be no ring."""
        return list(self._amounts)

    def trip_from(self, place):
        """Return a trip with the greatest gain from a place on. There has to be no ring."""
        speeds = []
        while self._choices[place] is not None:
            speeds.append(str(self._choices[place]))
            place = self._behind(place)
        return "".join(speeds)

    def ring(self):
        """Return the tuple (place, trip) of a ring that gains more than 0 and of a place on it, or None."""
        if self._ring_place is None:
            return None
        speeds = [str(self._choices[self._ring_place])]
        place = self._behind(self._ring_place)
        while place != self._ring_place:
            speeds.append(str(self._choices[place]))
            place = self._behind(place)
        return place, "".join(speeds)

    def _work_out(self):
        """Work out the amounts and choices, and return a place on a ring that gains more than 0, or None."""
        before = [[] for _ in self._rows]
        for place, row in enumerate(self._rows):
            for speed, (behind, gain) in enumerate(row):
                before[behind].append((place, speed, gain))
        # What was found last mostly follows what was found first.
        waiting = list(range(len(self._rows)))[::-1]
        while waiting:
            raised = {}
            for behind in waiting:
                amount = self._amounts[behind]
                for place, speed, gain in before[behind]:
                    if amount + gain > self._amounts[place]:
                        self._amounts[place] = amount + gain
                        self._choices[place] = speed
                        raised[place] = True
            waiting = list(raised)
            ring_place = self._ring_behind(waiting)
            if ring_place is not None:
                return ring_place
        return None

    def _ring_behind(self, places):
        """Return a place on a ring of choices to which the choices lead from one of these places, or None."""
        # Each choice was better than what its place had before, so that a ring of choices gains more than 0.
        seen = {}
        for first in places:
            place = first
            while self._choices[place] is not None and place not in seen:
                seen[place] = first
                place = self._behind(place)
            if self._choices[place] is not None and seen[place] == first:
                return place
        return None

    def _behind(self, place):
        """Return the place behind the choice of a place."""
        return self._rows[place][self._choices[place]][0]


class Parting:
    """The shortest trips that part the beginnings of graphs: such with which they do not gain the same.

    In each round, those places are told apart from which some trip with one tick more gains not the same.
    """

    def __init__(self, graphs):
        self._rows = []
        self._starts = []
        for graph in graphs:
            offset = len(self._rows)
            self._starts.append(offset)
            self._rows.extend([[(offset + place, gain) for place, gain in row] for row in graph.rows()])
        gains = [tuple([gain for _, gain in row]) for row in self._rows]
        # For each number of ticks, the list of the kinds of all places that such trips tell apart.
        self._rounds = [[0 for _ in self._rows], _kinds(gains)]
        behind = [[place for place, _ in row] for row in self._rows]
        while self._goes_on():
            kinds = self._rounds[-1]
            self._rounds.append(_kinds([(kinds[at], tuple([kinds[place] for place in places]))
                                        for at, places in enumerate(behind)]))

    def trip(self, one, other):
        """Return a shortest trip that parts the beginnings of two of the graphs, told by numbers, or None."""
        place = self._starts[one]
        other_place = self._starts[other]
        parted = [kinds[place] != kinds[other_place] for kinds in self._rounds]
        trip = ""
        if not parted[-1]:
            return None
        for kinds in self._rounds[:parted.index(True)][::-1]:
            speed = self._parting_speed(place, other_place, kinds)
            trip += str(speed)
            place = self._rows[place][speed][0]
            other_place = self._rows[other_place][speed][0]
        return trip

    def _goes_on(self):
        """Tell whether the last round told more apart than the one before, and not all beginnings yet."""
        before, last = self._rounds[-2:]
        starts = {last[place]: True for place in self._starts}
        return max(last) > max(before) and len(starts) < len(self._starts)

    def _parting_speed(self, place, other_place, kinds):
        """Return a speed that gains not the same from two places, or leads to places of unlike kinds."""
        for speed, (step, other_step) in enumerate(zip(self._rows[place], self._rows[other_place])):
            if step[1] != other_step[1] or kinds[step[0]] != kinds[other_step[0]]:
                return speed
        return None


def _kinds(signs):
    """Return a list of numbers from 0 on, one for each sign in a list: equal signs have equal numbers."""
    numbers = {}
    return [numbers.setdefault(sign, len(numbers)) for sign in signs]
