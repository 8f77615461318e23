"""The checks of arguments that occur in many modules."""

from loopgrowth.errors import InvalidGraph, InvalidNumber, InvalidOperation, UnknownName
from loopgrowth.graphs.graphs import Graph
from loopgrowth.values import is_ascending, is_natural, is_tuple_of_names


def check_graph(graph):
    """Raises an error unless this is a graph."""
    if not isinstance(graph, Graph):
        raise InvalidGraph("this is no graph")


def check_name(graph, name):
    """Raises an error unless this is the name of a transition."""
    if name not in graph:
        raise UnknownName(name)


def check_names(graph, names):
    """Raises an error unless this is a tuple of names of transitions."""
    if not isinstance(names, tuple):
        raise InvalidOperation("the names are no tuple")
    for name in names:
        check_name(graph, name)


def check_counter(graph, counter):
    """Raises an error unless the graph has this counter."""
    if counter not in graph.counters:
        raise UnknownName(counter)


def check_counters(graph, counters):
    """Raises an error unless this is a tuple of counters."""
    if not isinstance(counters, tuple):
        raise InvalidOperation("the counters are no tuple")
    for counter in counters:
        check_counter(graph, counter)


def check_thing(graph, thing):
    """Raises an error unless this is a transition or a counter."""
    if thing not in graph and thing not in graph.counters:
        raise UnknownName(thing)


def check_state(graph, state):
    """Raises an error unless the graph has this state."""
    if state not in graph.states:
        raise UnknownName(state)


def check_number(number):
    """Raises an error unless this is an integer of at least 0."""
    if not is_natural(number):
        raise InvalidNumber(number)


def check_amounts(graph, amounts):
    """Raises an error unless these are amounts."""
    if not are_amounts(graph, amounts):
        raise InvalidOperation("these are no amounts")


def are_amounts(graph, value):
    """Whether the value is a dict from transitions of the graph to integers of at least 0."""
    return isinstance(value, dict) and all([name in graph and is_natural(value[name]) for name in value])


def is_part(graph, value):
    """Whether the value is an ascending tuple of one or more states of the graph."""
    if not is_tuple_of_names(value) or not value or not is_ascending(value):
        return False
    return all([state in graph.states for state in value])
