"""Endless walks: closed walks that lessen none of some counters."""

from loopgrowth.errors import InvalidOperation
from loopgrowth.graphs.checks import check_counters, check_graph, check_thing
from loopgrowth.graphs.parts import components, lies_in
from loopgrowth.levels.balances import Balance
from loopgrowth.walks.recipes import circuit


def endless(graph, counters):
    """The transitions of closed walks that lessen none of these counters, and the counters that such a walk gains."""
    return shown_endless(endless_paper(graph, counters))


def every_run_ends(graph):
    """Whether there is no run without end."""
    check_graph(graph)
    names, _ = endless(graph, graph.counters)
    return not names


def _round(graph, names, counters):
    """The round of these transitions, in which each counter is looked at in each of their components."""
    parts = components(graph, names)
    return Balance(graph, names, {counter: parts for counter in counters})


def _rounds(graph, counters):
    """The balances of all rounds, from the first to the last one."""
    rounds = [_round(graph, graph.names, counters)]
    while rounds[-1].falling():
        rounds.append(_round(graph, rounds[-1].carried(), counters))
    return rounds


def endless_paper(graph, counters):
    """The meetings of all rounds, from the first to the last one."""
    check_graph(graph)
    check_counters(graph, counters)
    return tuple(balance.meeting() for balance in _rounds(graph, counters))


def is_endless_paper(graph, counters, value):
    """Whether the value is meetings of all rounds, from the first to the last one."""
    check_graph(graph)
    check_counters(graph, counters)
    if not isinstance(value, tuple):
        return False
    names = graph.names
    for at, meeting in enumerate(value):
        if not _round(graph, names, counters).is_meeting(meeting):
            return False
        carried = _carried(meeting)
        if carried == names:
            return at == len(value) - 1
        names = carried
    return False


def _carried(meeting):
    _, _, amounts = meeting
    return tuple(sorted([name for name in amounts if amounts[name] > 0]))


def shown_endless(paper):
    """The transitions and the counters that an endless paper shows."""
    weights, _, _ = paper[-1]
    return _carried(paper[-1]), tuple(sorted({counter for counter, part in weights if weights[counter, part] == 0}))


def endless_walk(graph, counters, thing):
    """A recipe from a state back to it that lessens none of these counters and takes or gains the thing, or None."""
    check_graph(graph)
    check_counters(graph, counters)
    check_thing(graph, thing)
    if thing in graph.counters and thing not in counters:
        raise InvalidOperation("this counter is none of those that are asked for")
    weights, _, amounts = endless_paper(graph, counters)[-1]
    for part in components(graph, tuple(amounts)):
        inside = {name: amounts[name] for name in amounts if lies_in(graph, name, part)}
        if thing in inside or weights.get((thing, part)) == 0:
            return circuit(graph, inside, part[0])
    return None
