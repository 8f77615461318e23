"""Balances of a graph, and the meetings that show what falls in them and what is carried."""

from loopgrowth.errors import InvalidBalance, UnknownName
from loopgrowth.exact.systems import solution
from loopgrowth.graphs.checks import check_counter, check_graph, check_names, is_part
from loopgrowth.graphs.parts import components, is_circulation, is_returning, lies_in
from loopgrowth.values import is_integer, is_natural


def _check_counters(graph, parts):
    if not isinstance(parts, dict) or not all([isinstance(counter, str) for counter in parts]):
        raise InvalidBalance("the parts are no dict from counters")
    for counter in sorted(list(parts)):
        check_counter(graph, counter)


def _are_parts(graph, value):
    """Whether the value is a tuple of parts, no two of which have a state in common."""
    if not isinstance(value, tuple) or not all([is_part(graph, part) for part in value]):
        return False
    states = [state for part in value for state in part]
    return len(set(states)) == len(states)


def _fits(component, parts):
    """Whether the component lies within one of the parts, or has no state in them."""
    shared = [[state for state in component if state in part] for part in parts]
    return all([len(states) in (0, len(component)) for states in shared])


def _is_balance(graph, names, parts):
    if not is_returning(graph, names):
        return False
    if not all([_are_parts(graph, parts[counter]) for counter in parts]):
        return False
    return all([_fits(component, parts[counter]) for component in components(graph, names) for counter in parts])


class Balance:
    """Some transitions of a graph, and the parts in which its counters are looked at; it never changes."""

    def __init__(self, graph, names, parts):
        check_graph(graph)
        check_names(graph, names)
        _check_counters(graph, parts)
        if not _is_balance(graph, names, parts):
            raise InvalidBalance("there is no such balance")
        self._graph = graph
        self._names = tuple(name for name in graph.names if name in names)
        self._parts = {counter: tuple(sorted(parts[counter])) for counter in graph.counters if counter in parts}
        self._rows = tuple((counter, part) for counter in self._parts for part in self._parts[counter])
        self._changes = {name: graph.change(name) for name in self._names}
        self._solved = None

    @property
    def graph(self):
        """The graph."""
        return self._graph

    @property
    def names(self):
        """The names of the transitions, ascending."""
        return self._names

    @property
    def parts(self):
        """A dict from the counters that are not left out to their parts."""
        return dict(self._parts)

    @property
    def rows(self):
        """The pairs of a counter and one of its parts, ascending."""
        return self._rows

    def __len__(self):
        return len(self._rows)

    def __eq__(self, other):
        return (isinstance(other, Balance) and self._graph == other._graph and self._names == other._names
                and self._parts == other._parts)

    def __str__(self):
        return f"balance of {len(self._names)} transitions, {len(self._rows)} rows"

    def meeting(self):
        """Weights, offsets and amounts that make all choices of the balance."""
        forces, shares = self._solution()
        many = len(self._rows)
        return (
            {row: force for row, force in zip(self._rows, forces[:many])},
            {state: force for state, force in zip(self._graph.states, forces[many:])},
            {name: share for name, share in zip(self._names, shares)},
        )

    def _solution(self):
        # The first call keeps it: what falls and what is carried is asked often.
        if self._solved is None:
            rows = [("least", tuple(self._change(name, row) for name in self._names)) for row in self._rows]
            states = [("equal", tuple(self._coming(name, state) for name in self._names))
                      for state in self._graph.states]
            self._solved = solution(tuple(rows + states))
        return self._solved

    def _change(self, name, row):
        """What the transition adds to the counter of a row, 0 if it does not lie in its part."""
        counter, part = row
        return self._changes[name][counter] if lies_in(self._graph, name, part) else 0

    def _coming(self, name, state):
        """What the transition brings to a state: 1, -1 or 0."""
        _, source, target, _ = self._graph[name]
        return (1 if target == state else 0) - (1 if source == state else 0)

    def is_meeting(self, value):
        """Whether the value is a meeting of this balance."""
        if not self._has_form(value):
            return False
        weights, offsets, amounts = value
        if not is_circulation(self._graph, amounts):
            return False
        falls = [(self._fall(weights, offsets, name), amounts[name]) for name in self._names]
        gains = [(self._gain(amounts, row), weights[row]) for row in self._rows]
        # Of each pair none is below 0, and just one is above it.
        return all([min(pair) == 0 < max(pair) for pair in falls + gains])

    def _has_form(self, value):
        if not isinstance(value, tuple) or len(value) != 3:
            return False
        weights, offsets, amounts = value
        if not _is_dict_from(self._rows, weights) or not _is_dict_from(self._graph.states, offsets):
            return False
        if not _is_dict_from(self._names, amounts) or not all([is_integer(offsets[state]) for state in offsets]):
            return False
        return all([is_natural(told[key]) for told in (weights, amounts) for key in told])

    def _fall(self, weights, offsets, name):
        _, source, target, _ = self._graph[name]
        return offsets[source] - offsets[target] - sum([weights[row] * self._change(name, row) for row in self._rows])

    def _gain(self, amounts, row):
        return sum([amounts[name] * self._change(name, row) for name in self._names])

    def _check_meeting(self, value):
        if not self.is_meeting(value):
            raise InvalidBalance("this is no meeting of the balance")

    def fall(self, meeting, name):
        """The fall of a transition of this balance."""
        self._check_meeting(meeting)
        if name not in self._names:
            raise UnknownName(name)
        weights, offsets, _ = meeting
        return self._fall(weights, offsets, name)

    def effect_on(self, meeting, row):
        """The effect on the counter of a row within its part."""
        self._check_meeting(meeting)
        if row not in self._rows:
            raise UnknownName(row)
        return self._gain(meeting[2], row)

    def added(self, meeting, other):
        """The meeting with the sums of both."""
        self._check_meeting(meeting)
        self._check_meeting(other)
        return (
            _sums(self._rows, meeting[0], other[0]),
            _sums(self._graph.states, meeting[1], other[1]),
            _sums(self._names, meeting[2], other[2]),
        )

    def falling(self):
        """The transitions that fall in each meeting."""
        _, _, amounts = self.meeting()
        return tuple(name for name in self._names if amounts[name] == 0)

    def carried(self):
        """The transitions that are carried in each meeting."""
        _, _, amounts = self.meeting()
        return tuple(name for name in self._names if amounts[name] > 0)

    def weighted(self):
        """The rows that have a weight above 0 in each meeting."""
        weights, _, _ = self.meeting()
        return tuple(row for row in self._rows if weights[row] > 0)

    def gained(self):
        """The rows that have an effect above 0 in each meeting."""
        weights, _, _ = self.meeting()
        return tuple(row for row in self._rows if weights[row] == 0)


def _is_dict_from(keys, value):
    """Whether the value is a dict from just these keys."""
    return isinstance(value, dict) and len(value) == len(keys) and all([key in value for key in keys])


def _sums(keys, one, two):
    return {key: one[key] + two[key] for key in keys}
