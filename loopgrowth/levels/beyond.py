"""What grows beyond every power, and the doublings that show it."""

from loopgrowth.errors import InvalidOperation
from loopgrowth.graphs.checks import check_graph
from loopgrowth.graphs.parts import components, effect, is_circulation
from loopgrowth.levels.levels import climbed
from loopgrowth.levels.ranks import free
from loopgrowth.values import is_ascending, is_tuple_of_names


def beyond(graph):
    """The transitions and the counters that are beyond."""
    ascent = climbed(graph, free(graph))
    names, counters = ascent.left()
    return tuple(name for name in names if name not in ascent.ranks), counters


def doubling(graph):
    """A doubling that has all that is beyond, or None if nothing is."""
    ascent = climbed(graph, free(graph))
    _, counters = ascent.left()
    if not counters:
        return None
    # At the last level each counter with an exponent is looked at in the components of what is carried, and each one
    # without is gained: this is just what a doubling asks for.
    _, _, amounts = ascent.meetings[-1]
    return amounts, counters


def is_doubling(graph, value):
    """Whether the value is a doubling."""
    check_graph(graph)
    return _is_doubling(graph, _bounded(graph), value)


def _bounded(graph):
    """The counters that are not free."""
    ranks = free(graph)
    return [counter for counter in graph.counters if counter not in ranks]


def _is_doubling(graph, bounded, value):
    if not isinstance(value, tuple) or len(value) != 2 or not is_circulation(graph, value[0]):
        return False
    amounts, gained = value
    if not is_tuple_of_names(gained) or not gained or not is_ascending(gained):
        return False
    if not all([counter in bounded for counter in gained]):
        return False
    return _gains(graph, amounts, gained) and _keeps(graph, amounts, [one for one in bounded if one not in gained])


def _gains(graph, amounts, counters):
    """Whether these amounts have an effect above 0 on each of the counters; so they are not all 0."""
    effects = effect(graph, amounts)
    return all([effects[counter] > 0 for counter in counters])


def _keeps(graph, amounts, counters):
    """Whether the amounts lessen none of the counters in any component of their support."""
    parts = components(graph, tuple(name for name in amounts if amounts[name] > 0))
    effects = [effect(graph, amounts, part=part) for part in parts]
    return all([within[counter] >= 0 for within in effects for counter in counters])


def joined_doublings(graph, one, other):
    """The doubling with the sums of the amounts and the counters of both."""
    check_graph(graph)
    bounded = _bounded(graph)
    for value in (one, other):
        if not _is_doubling(graph, bounded, value):
            raise InvalidOperation("this is no doubling")
    amounts = {name: one[0].get(name, 0) + other[0].get(name, 0) for name in graph.names}
    return amounts, tuple(sorted(set(one[1] + other[1])))
