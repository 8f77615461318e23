"""Endless walks: closed walks that lessen none of some counters."""

from loopgrowth.errors import InvalidOperation
from loopgrowth.graphs.checks import check_counters, check_graph, check_thing
from loopgrowth.graphs.parts import components, lies_in
from loopgrowth.levels.ladders import finished, is_shown_by, meetings_of, rounds_for
from loopgrowth.walks.recipes import circuit


def endless(graph, counters):
    """The transitions of closed walks that lessen none of these counters, and the counters that such a walk gains."""
    check_graph(graph)
    check_counters(graph, counters)
    return finished(rounds_for(graph, counters)).shown


def every_run_ends(graph):
    """Whether there is no run without end."""
    check_graph(graph)
    names, _ = endless(graph, graph.counters)
    return not names


def endless_paper(graph, counters):
    """The meetings of all rounds, from the first to the last one."""
    check_graph(graph)
    check_counters(graph, counters)
    return meetings_of(finished(rounds_for(graph, counters)))


def is_endless_paper(graph, counters, value):
    """Whether the value is meetings of all rounds, from the first to the last one."""
    check_graph(graph)
    check_counters(graph, counters)
    return is_shown_by(rounds_for(graph, counters), value)


def endless_walk(graph, counters, thing):
    """A recipe from a state back to it that lessens none of these counters and takes or gains the thing, or None."""
    check_graph(graph)
    check_counters(graph, counters)
    check_thing(graph, thing)
    if thing in graph.counters and thing not in counters:
        raise InvalidOperation("this counter is none of those that are asked for")
    weights, _, amounts = finished(rounds_for(graph, counters)).balances[-1].meeting()
    for part in components(graph, tuple(amounts)):
        inside = {name: amounts[name] for name in amounts if lies_in(graph, name, part)}
        if thing in inside or weights.get((thing, part)) == 0:
            return circuit(graph, inside, part[0])
    return None
