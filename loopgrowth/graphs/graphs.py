"""Graphs: counters, states, and the transitions between them."""

from loopgrowth.errors import InvalidGraph, InvalidOperation, UnknownName
from loopgrowth.values import is_ascending, is_integer, is_name, is_tuple_of_names

_MAX_COUNTERS = 5
_MAX_STATES = 8
_MAX_TRANSITIONS = 16
_MAX_CHANGE = 9
_COUNTERS = "counters"
_STATES = "states"
_TRANSITIONS = "transitions"


def is_transition(value):
    """Whether the value is a transition."""
    if not isinstance(value, tuple) or len(value) != 4:
        return False
    return all([is_name(name) for name in value[:3]]) and _is_change(value[3])


def _is_change(value):
    if not isinstance(value, tuple) or not all([_is_counter_change(pair) for pair in value]):
        return False
    return is_ascending([counter for counter, _ in value])


def _is_counter_change(value):
    if not isinstance(value, tuple) or len(value) != 2 or not is_name(value[0]):
        return False
    return _is_amount(value[1]) and value[1] != 0


def _is_amount(value):
    return is_integer(value) and -_MAX_CHANGE <= value <= _MAX_CHANGE


def reached(links, state):
    """A dict from the states to which pairs (source, target) lead from this one, itself included."""
    known = {state: True}
    waiting = [state]
    while waiting:
        here = waiting.pop()
        for source, target in links:
            if source == here and target not in known:
                known[target] = True
                waiting.append(target)
    return known


def _are_connected(states, transitions):
    """Whether each of these states leads to every other one."""
    forward = [(source, target) for _, source, target, _ in transitions]
    backward = [(target, source) for source, target in forward]
    return len(reached(forward, states[0])) == len(states) == len(reached(backward, states[0]))


def _is_graph(counters, transitions, states):
    """Whether there is a graph of these counters, transitions and further states."""
    if not is_tuple_of_names(counters) or not is_tuple_of_names(states):
        return False
    if not all([is_transition(one) for one in transitions]):
        return False
    every_counter = sorted(set(counters))
    every_state = _all_states(transitions, states)
    things = every_counter + [name for name, _, _, _ in transitions]
    if not 1 <= len(every_counter) <= _MAX_COUNTERS or not 1 <= len(every_state) <= _MAX_STATES:
        return False
    if len(transitions) > _MAX_TRANSITIONS or len(set(things)) < len(things):
        return False
    if not all([counter in every_counter for _, _, _, change in transitions for counter, _ in change]):
        return False
    return _are_connected(every_state, transitions)


def _all_states(transitions, states):
    touched = [state for _, source, target, _ in transitions for state in (source, target)]
    return sorted(set([*states, *touched]))


def _renaming(old, names):
    """A dict from all old names to the names that they have afterwards."""
    unknown = [name for name in names if name not in old]
    if unknown:
        raise UnknownName(min(unknown))
    renaming = {name: names.get(name, name) for name in old}
    new = [renaming[name] for name in old]
    if not all([is_name(name) for name in new]) or len(set(new)) < len(new):
        raise InvalidGraph("the new names are no names, or two names become one")
    return renaming


class Graph:
    """A graph; it never changes."""

    def __init__(self, counters, *transitions, states=()):
        if not _is_graph(counters, transitions, states):
            raise InvalidGraph("there is no such graph")
        self._counters = tuple(sorted(set(counters)))
        self._states = tuple(_all_states(transitions, states))
        self._rows = tuple(sorted(transitions))
        self._names = tuple(row[0] for row in self._rows)
        self._by_name = {row[0]: row for row in self._rows}
        self._kept = {}

    @classmethod
    def of(cls, counters, transitions, states=()):
        """The graph with a tuple of transitions."""
        if not isinstance(transitions, tuple):
            raise InvalidGraph("the transitions are no tuple")
        return cls(counters, *transitions, states=states)

    @property
    def counters(self):
        """The counters, ascending."""
        return self._counters

    @property
    def states(self):
        """The states, ascending."""
        return self._states

    @property
    def names(self):
        """The names of the transitions, ascending."""
        return self._names

    @property
    def transitions(self):
        """The transitions, ascending."""
        return self._rows

    def __getitem__(self, at):
        if at not in self:
            raise UnknownName(at)
        return self._by_name[at]

    def __contains__(self, x):
        return isinstance(x, str) and x in self._by_name

    def __len__(self):
        return len(self._rows)

    def __bool__(self):
        return bool(self._rows)

    def __iter__(self):
        return iter(self._rows)

    def __eq__(self, other):
        return (isinstance(other, Graph) and self._counters == other._counters
                and self._states == other._states and self._rows == other._rows)

    def __str__(self):
        return f"graph of {len(self._states)} states, {len(self._counters)} counters, {len(self._rows)} transitions"

    def change(self, name):
        """What the transition adds to each counter, also 0."""
        told = dict(self[name][3])
        return {counter: told.get(counter, 0) for counter in self._counters}

    def leaving(self, state):
        """The names of the transitions with this source."""
        self._check_state(state)
        return tuple(name for name, source, _, _ in self._rows if source == state)

    def entering(self, state):
        """The names of the transitions with this target."""
        self._check_state(state)
        return tuple(name for name, _, target, _ in self._rows if target == state)

    def _check_state(self, state):
        if state not in self._states:
            raise UnknownName(state)

    def with_transitions(self, *transitions):
        """The graph that has these transitions, too."""
        return Graph.of(self._counters, self._rows + transitions, self._states)

    def without(self, *names):
        """The graph that has these transitions no more, nor states that no transition touches."""
        for name in names:
            if name not in self:
                raise UnknownName(name)
        rest = tuple(row for row in self._rows if row[0] not in names)
        return Graph.of(self._counters, rest, () if rest else self._states[:1])

    def with_counter(self, counter, changes):
        """The graph with a new counter that some transitions change."""
        if not is_name(counter) or counter in self._counters or not self._are_changes(changes):
            raise InvalidGraph("this is no new counter, or these are no changes of it")
        rows = []
        for name, source, target, change in self._rows:
            amount = changes.get(name, 0)
            more = ((counter, amount),) if amount != 0 else ()
            rows.append((name, source, target, tuple(sorted(change + more))))
        return Graph.of(self._counters + (counter,), tuple(rows), self._states)

    def _are_changes(self, value):
        return isinstance(value, dict) and all([name in self and _is_amount(value[name]) for name in value])

    def without_counter(self, counter):
        """The graph that has this counter no more."""
        if counter not in self._counters:
            raise UnknownName(counter)
        rest = tuple(other for other in self._counters if other != counter)
        rows = [(name, source, target, tuple(pair for pair in change if pair[0] != counter))
                for name, source, target, change in self._rows]
        return Graph.of(rest, tuple(rows), self._states)

    def renamed(self, kind, names):
        """The graph with other names of one kind, all at once."""
        if kind not in (_COUNTERS, _STATES, _TRANSITIONS):
            raise InvalidOperation("there is no such kind of names")
        if not isinstance(names, dict) or not all([isinstance(name, str) for name in names]):
            raise InvalidOperation("the names are no dict from strings")
        counters = _renaming(self._counters, names if kind == _COUNTERS else {})
        states = _renaming(self._states, names if kind == _STATES else {})
        own = _renaming(self._names, names if kind == _TRANSITIONS else {})
        rows = [(own[name], states[source], states[target], _renamed_change(change, counters))
                for name, source, target, change in self._rows]
        return Graph.of(tuple(counters.values()), tuple(rows), tuple(states.values()))


def _renamed_change(change, counters):
    return tuple(sorted([(counters[counter], amount) for counter, amount in change]))


def kept(graph, word):
    """What has been found out about this graph and is kept under this word, or None."""
    return graph._kept.get(word)


def keep(graph, word, value):
    """Keeps what has been found out about this graph: as it never changes, this stays true."""
    graph._kept[word] = value
    return value
