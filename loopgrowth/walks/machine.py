"""A machine that takes the transitions of a graph step by step, and takes them back."""

from loopgrowth.errors import InvalidOperation, NotEnough, NothingToUndo
from loopgrowth.graphs.checks import check_counter, check_graph, check_name, check_names, check_number, check_state


class Moment:
    """Where a machine stood when a block began."""

    def __init__(self, machine, earlier):
        self._state = machine._state
        self._loads = machine._loads
        self._log = list(machine._log)
        self._earlier = earlier


class Trial:
    """A block at whose end a machine is as at its beginning."""

    def __init__(self, machine):
        self._machine = machine
        self._moment = None

    def __enter__(self):
        self._moment = Moment(self._machine, self._moment)
        return self._machine

    def __exit__(self, kind, value, trace):
        self._machine._state = self._moment._state
        self._machine._loads = self._moment._loads
        self._machine._log = self._moment._log
        self._moment = self._moment._earlier


class Machine:
    """A machine at a state of a graph, with a value for each counter."""

    def __init__(self, graph, size, *, start=None):
        check_graph(graph)
        check_number(size)
        if start is not None:
            check_state(graph, start)
        self._graph = graph
        self._size = size
        self._first = graph.states[0] if start is None else start
        self._changes = {name: tuple(graph.change(name).values()) for name in graph.names}
        self._state = self._first
        self._loads = tuple(size for _ in graph.counters)
        self._log = []

    @property
    def graph(self):
        """The graph."""
        return self._graph

    @property
    def state(self):
        """The state at which the machine is."""
        return self._state

    @property
    def loads(self):
        """The values of the counters."""
        return {counter: load for counter, load in zip(self._graph.counters, self._loads)}

    @property
    def steps(self):
        """How many transitions the machine has taken."""
        return len(self._log)

    @property
    def log(self):
        """The names of the transitions that the machine has taken."""
        return tuple(self._log)

    @property
    def possible(self):
        """The names of the transitions that can be taken now."""
        return tuple(name for name in self._graph.names if self._can_take(name))

    def _can_take(self, name):
        if self._graph[name][1] != self._state:
            return False
        return all([load + change >= 0 for load, change in zip(self._loads, self._changes[name])])

    def __contains__(self, x):
        return x in self._graph and self._can_take(x)

    def __eq__(self, other):
        return (isinstance(other, Machine) and self._graph == other._graph and self._state == other._state
                and self._loads == other._loads and self._log == other._log)

    def __str__(self):
        told = ", ".join([f"{counter} {load}" for counter, load in zip(self._graph.counters, self._loads)])
        return f"machine at {self._state}: {told}"

    def take(self, *names):
        """Takes these transitions, all or none, and returns the steps."""
        return self.take_all(names)

    def take_all(self, names):
        """Takes the transitions of a tuple, all or none, and returns the steps."""
        check_names(self._graph, names)
        state, loads = self._state, self._loads
        for name in names:
            state, loads = self._moved(state, loads, name)
        self._state = state
        self._loads = loads
        self._log.extend(list(names))
        return len(self._log)

    def _moved(self, state, loads, name):
        """The state and the loads behind a transition, if it can be taken there."""
        _, source, target, _ = self._graph[name]
        if source != state:
            raise InvalidOperation("the transition does not begin at this state")
        moved = tuple(load + change for load, change in zip(loads, self._changes[name]))
        for counter, load in zip(self._graph.counters, moved):
            if load < 0:
                raise NotEnough(counter)
        return target, moved

    def walk(self, names):
        """Takes each transition when it is asked for, and yields the loads behind it."""
        if not isinstance(names, tuple):
            raise InvalidOperation("the names are no tuple")
        for name in names:
            self.take(name)
            yield self.loads

    def taken(self, name):
        """How often the transition stands in the log."""
        check_name(self._graph, name)
        return self._log.count(name)

    def highest(self, counter):
        """The greatest value of the counter from the beginning of the log on."""
        check_counter(self._graph, counter)
        place = self._graph.counters.index(counter)
        load = best = self._size
        for name in self._log:
            load = load + self._changes[name][place]
            best = max(best, load)
        return best

    def back(self, *, many=1):
        """Takes the last steps back, and returns the steps that are left."""
        check_number(many)
        kept = len(self._log) - many
        if kept < 0:
            raise NothingToUndo(many)
        for name in self._log[kept:][::-1]:
            self._state = self._graph[name][1]
            self._loads = tuple(load - change for load, change in zip(self._loads, self._changes[name]))
        del self._log[kept:]
        return kept

    def trial(self):
        """A block at whose end the machine is as at its beginning."""
        return Trial(self)

    def attempt(self, action):
        """What action(machine) returns; behind it the machine is as before."""
        with self.trial() as same:
            return action(same)

    def twin(self):
        """An independent machine with the same steps."""
        other = Machine(self._graph, self._size, start=self._first)
        other._state = self._state
        other._loads = self._loads
        other._log = list(self._log)
        return other
