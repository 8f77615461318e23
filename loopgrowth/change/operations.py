"""Operations that make other graphs, and of which it is known what they do to the growths."""

from loopgrowth.errors import InvalidGraph, InvalidNumber, InvalidOperation
from loopgrowth.graphs.checks import check_counter, check_graph, check_name, check_state
from loopgrowth.graphs.graphs import Graph
from loopgrowth.values import is_integer

_MAX_FACTOR = 9


def scaled(graph, counter, factor):
    """The graph in which all changes of a counter are multiplied by the factor."""
    check_graph(graph)
    check_counter(graph, counter)
    if not is_integer(factor) or not 1 <= factor <= _MAX_FACTOR:
        raise InvalidNumber(factor)
    rows = [(name, source, target, _scaled_change(change, counter, factor)) for name, source, target, change in graph]
    return Graph.of(graph.counters, tuple(rows), graph.states)


def _scaled_change(change, counter, factor):
    return tuple((other, amount * factor if other == counter else amount) for other, amount in change)


def counted(graph, name, counter):
    """The graph with a new counter that counts how often the transition is taken."""
    check_graph(graph)
    check_name(graph, name)
    return graph.with_counter(counter, {name: 1})


def copied(graph, name, other):
    """The graph with one more transition that is equal to this one, but for its name."""
    check_graph(graph)
    check_name(graph, name)
    return graph.with_transitions((other,) + graph[name][1:])


def halved(graph, name, other, state):
    """The graph in which the transition leads to a new state, and a new one from there to where it has led."""
    check_graph(graph)
    check_name(graph, name)
    if state in graph.states:
        raise InvalidGraph("there is such a state already")
    _, source, target, change = graph[name]
    rest = tuple(row for row in graph if row[0] != name)
    halves = ((name, source, state, change), (other, state, target, ()))
    return Graph.of(graph.counters, rest + halves, graph.states)


def joined(one, other, state):
    """The graph that has all of both graphs, which have this one state in common."""
    for graph in (one, other):
        check_graph(graph)
    for graph in (one, other):
        check_state(graph, state)
    if [shared for shared in one.states if shared in other.states and shared != state]:
        raise InvalidOperation("the graphs have another state in common")
    if [name for name in one.names if name in other]:
        raise InvalidOperation("the graphs have a transition in common")
    return Graph.of(one.counters + other.counters, one.transitions + other.transitions, (state,))


def allows(graph, other):
    """Whether each run of the other graph can be walked in this one, too, with no counter lower."""
    check_graph(graph)
    check_graph(other)
    if graph.counters != other.counters or not all([state in graph.states for state in other.states]):
        return False
    return all([_allows_transition(graph, other, name) for name in other.names])


def _allows_transition(graph, other, name):
    """Whether the graph has this transition of the other one, with changes that are nowhere less."""
    if name not in graph or graph[name][1:3] != other[name][1:3]:
        return False
    changes, least = graph.change(name), other.change(name)
    return all([changes[counter] >= least[counter] for counter in least])
