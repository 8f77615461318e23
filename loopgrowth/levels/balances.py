"""Balances of a graph, and the meetings that show what falls in them and what is carried."""

from loopgrowth.errors import InvalidBalance, UnknownName
from loopgrowth.graphs.checks import check_counter, check_graph, check_names, is_part
from loopgrowth.graphs.parts import components, is_returning
from loopgrowth.levels.ladders import Sums


def _check_counters(graph, parts):
    if not isinstance(parts, dict) or not all([isinstance(counter, str) for counter in parts]):
        raise InvalidBalance("the parts are no dict from counters")
    for counter in sorted(list(parts)):
        check_counter(graph, counter)


def _are_parts(graph, value):
    """Whether the value is a tuple of parts, no two of which have a state in common."""
    if not isinstance(value, tuple) or not all([is_part(graph, part) for part in value]):
        return False
    states = [state for part in value for state in part]
    return len(set(states)) == len(states)


def _fits(component, parts):
    """Whether the component lies within one of the parts, or has no state in them."""
    shared = [[state for state in component if state in part] for part in parts]
    return all([len(states) in (0, len(component)) for states in shared])


def _is_balance(graph, names, parts):
    if not is_returning(graph, names):
        return False
    if not all([_are_parts(graph, parts[counter]) for counter in parts]):
        return False
    return all([_fits(component, parts[counter]) for component in components(graph, names) for counter in parts])


def _checked_sums(graph, names, parts):
    """The sums of a balance, if there is such a one."""
    _check_counters(graph, parts)
    if not _is_balance(graph, names, parts):
        raise InvalidBalance("there is no such balance")
    among = tuple(name for name in graph.names if name in names)
    pieces = {counter: tuple(sorted(parts[counter])) for counter in graph.counters if counter in parts}
    return Sums(graph, among, pieces)


class Balance:
    """Some transitions of a graph, and the parts in which its counters are looked at; it never changes."""

    def __init__(self, graph, names, parts):
        check_graph(graph)
        check_names(graph, names)
        # Balances of levels pass their sums: it is known that they are right.
        self._sums = parts if isinstance(parts, Sums) else _checked_sums(graph, names, parts)
        self._graph = graph

    @property
    def graph(self):
        """The graph."""
        return self._graph

    @property
    def names(self):
        """The names of the transitions, ascending."""
        return self._sums.among

    @property
    def parts(self):
        """A dict from the counters that are not left out to their parts."""
        return dict(self._sums.pieces)

    @property
    def rows(self):
        """The pairs of a counter and one of its parts, ascending."""
        return self._sums.lines

    def __len__(self):
        return len(self._sums.lines)

    def __eq__(self, other):
        return (isinstance(other, Balance) and self._graph == other._graph and self._sums.among == other._sums.among
                and self._sums.pieces == other._sums.pieces)

    def __str__(self):
        return f"balance of {len(self._sums.among)} transitions, {len(self._sums.lines)} rows"

    def meeting(self):
        """Weights, offsets and amounts that make all choices of the balance."""
        return self._sums.meeting()

    def is_meeting(self, value):
        """Whether the value is a meeting of this balance."""
        return self._sums.is_meeting(value)

    def _check_meeting(self, value):
        if not self.is_meeting(value):
            raise InvalidBalance("this is no meeting of the balance")

    def fall(self, meeting, name):
        """The fall of a transition of this balance."""
        self._check_meeting(meeting)
        if name not in self._sums.among:
            raise UnknownName(name)
        return self._sums.fall(meeting, name)

    def effect_on(self, meeting, row):
        """The effect on the counter of a row within its part."""
        self._check_meeting(meeting)
        if row not in self._sums.lines:
            raise UnknownName(row)
        return self._sums.gain(meeting, row)

    def added(self, meeting, other):
        """The meeting with the sums of both."""
        self._check_meeting(meeting)
        self._check_meeting(other)
        keys = (self._sums.lines, self._graph.states, self._sums.among)
        sums = [{key: one[key] + two[key] for key in told} for told, one, two in zip(keys, meeting, other)]
        return tuple(sums)

    def falling(self):
        """The transitions that fall in each meeting."""
        _, _, amounts = self.meeting()
        return tuple(name for name in self._sums.among if amounts[name] == 0)

    def carried(self):
        """The transitions that are carried in each meeting."""
        _, _, amounts = self.meeting()
        return tuple(name for name in self._sums.among if amounts[name] > 0)

    def weighted(self):
        """The rows that have a weight above 0 in each meeting."""
        weights, _, _ = self.meeting()
        return tuple(row for row in self._sums.lines if weights[row] > 0)

    def gained(self):
        """The rows that have an effect above 0 in each meeting."""
        weights, _, _ = self.meeting()
        return tuple(row for row in self._sums.lines if weights[row] == 0)
