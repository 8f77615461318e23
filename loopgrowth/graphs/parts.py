"""Parts of a graph that hang together, and circulations with their cycles."""

from loopgrowth.errors import InvalidOperation
from loopgrowth.graphs.checks import are_amounts, check_amounts, check_graph, check_names, check_state, is_part
from loopgrowth.graphs.graphs import reached
from loopgrowth.values import is_natural


def components(graph, names):
    """The greatest parts whose states lead to one another by these transitions."""
    check_graph(graph)
    check_names(graph, names)
    links = [graph[name][1:3] for name in names]
    known = {state: reached(links, state) for state in graph.states}
    found = []
    for state in graph.states:
        part = tuple(other for other in graph.states if other in known[state] and state in known[other])
        inside = any([source in part and target in part for source, target in links])
        if part[0] == state and inside:
            found.append(part)
    return tuple(found)


def is_returning(graph, names):
    """Whether each of these transitions lies in one of their components."""
    parts = components(graph, names)
    return all([_lies_in_one(graph, name, parts) for name in names])


def _lies_in_one(graph, name, parts):
    return any([lies_in(graph, name, part) for part in parts])


def lies_in(graph, name, part):
    """Whether the source and the target of the transition belong to the part."""
    _, source, target, _ = graph[name]
    return source in part and target in part


def way(graph, state, other):
    """The names of the fewest transitions that lead from a state to another one."""
    check_graph(graph)
    check_state(graph, state)
    check_state(graph, other)
    distances = _distances(graph, other)
    names = []
    while state != other:
        nearer = [name for name in graph.leaving(state) if distances[graph[name][2]] < distances[state]]
        names.append(nearer[0])
        state = graph[nearer[0]][2]
    return tuple(names)


def _distances(graph, other):
    """How many transitions each state needs to come to this one."""
    distances = {other: 0}
    layer = [other]
    while layer:
        entering = [graph[name] for state in layer for name in graph.entering(state)]
        layer = sorted({source for _, source, _, _ in entering if source not in distances})
        for state in layer:
            distances[state] = 1 + min([distances[target] for _, source, target, _ in entering if source == state])
    return distances


def is_circulation(graph, value):
    """Whether the value is amounts of which as much comes to each state as goes from it."""
    check_graph(graph)
    if not are_amounts(graph, value):
        return False
    rests = {state: 0 for state in graph.states}
    for name in value:
        _, source, target, _ = graph[name]
        rests[source] = rests[source] - value[name]
        rests[target] = rests[target] + value[name]
    return not any([rests[state] for state in rests])


def check_circulation(graph, amounts):
    """Raises an error unless these amounts are a circulation."""
    if not is_circulation(graph, amounts):
        raise InvalidOperation("these amounts are no circulation")


def effect(graph, amounts, *, part=None):
    """What these amounts add to each counter, within a part or within all states."""
    check_graph(graph)
    check_amounts(graph, amounts)
    if part is not None and not is_part(graph, part):
        raise InvalidOperation("this is no part of the states")
    states = graph.states if part is None else part
    sums = {counter: 0 for counter in graph.counters}
    for name in amounts:
        if lies_in(graph, name, states):
            for counter, change in graph[name][3]:
                sums[counter] = sums[counter] + amounts[name] * change
    return sums


def cycles(graph):
    """All cycles, shorter ones first, those of one length ascending."""
    check_graph(graph)
    for many in range(1, len(graph.states) + 1):
        yield from _cycles_of_length(graph, many)


def _cycles_of_length(graph, many):
    ways = [((), (state,)) for state in graph.states]
    for _ in range(many - 1):
        ways = [longer for names, states in ways for longer in _longer_ways(graph, names, states)]
    return sorted([names + (last,) for names, states in ways for last in graph.leaving(states[-1])
                   if graph[last][2] == states[0]])


def _longer_ways(graph, names, states):
    """The way with one more transition, to a state that is new and not below its first one."""
    longer = []
    for name in graph.leaving(states[-1]):
        target = graph[name][2]
        if target > states[0] and target not in states:
            longer.append((names + (name,), states + (target,)))
    return longer


def packed(graph, amounts):
    """Pairs of a cycle and a number that together take each transition as often as the amounts say."""
    check_circulation(graph, amounts)
    rest = {name: amounts.get(name, 0) for name in graph.names}
    pairs = []
    while any([rest[name] > 0 for name in graph.names]):
        cycle = _cycle_within(graph, rest)
        many = min([rest[name] for name in cycle])
        pairs.append((cycle, many))
        for name in cycle:
            rest[name] = rest[name] - many
    return tuple(pairs)


def _cycle_within(graph, amounts):
    """A cycle of transitions with amounts above 0, of which the circulation has at least one."""
    support = [name for name in graph.names if amounts[name] > 0]
    names, states = [], [graph[support[0]][1]]
    # As much comes to each state as goes from it, so there is always a transition to go on with.
    while states[-1] not in states[:-1]:
        leaving = [name for name in support if graph[name][1] == states[-1]]
        names.append(leaving[0])
        states.append(graph[leaving[0]][2])
    return _from_least(graph, names[states.index(states[-1]):])


def _from_least(graph, names):
    """The closed walk, begun at the least of its states."""
    sources = [graph[name][1] for name in names]
    return rotated(names, sources.index(min(sources)))


def rotated(names, at):
    """The names from this place on, and then those ahead of it."""
    return tuple(names[at:]) + tuple(names[:at])


def is_packed(graph, amounts, value):
    """Whether the value is pairs as `packed` returns them for these amounts."""
    check_circulation(graph, amounts)
    if not isinstance(value, tuple) or not all([_is_counted_cycle(graph, pair) for pair in value]):
        return False
    if len(set([cycle for cycle, _ in value])) < len(value):
        return False
    return all([sum([many for cycle, many in value if name in cycle]) == amounts.get(name, 0)
                for name in graph.names])


def _is_counted_cycle(graph, value):
    if not isinstance(value, tuple) or len(value) != 2:
        return False
    return _is_cycle(graph, value[0]) and is_natural(value[1]) and value[1] > 0


def _is_cycle(graph, value):
    if not isinstance(value, tuple) or not value or not all([name in graph for name in value]):
        return False
    sources = [graph[name][1] for name in value]
    targets = [graph[name][2] for name in value]
    if sources[0] != min(sources) or len(set(sources)) < len(sources):
        return False
    return targets == sources[1:] + sources[:1]


def full_circulation(graph):
    """A circulation that takes each transition."""
    check_graph(graph)
    amounts = {name: 0 for name in graph.names}
    for name, source, target, _ in graph:
        for step in (name,) + way(graph, target, source):
            amounts[step] = amounts[step] + 1
    return amounts
