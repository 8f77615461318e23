"""What grows beyond every power, and the doublings that show it."""

from loopgrowth.errors import InvalidOperation
from loopgrowth.graphs.checks import check_graph
from loopgrowth.graphs.parts import components, effect, is_circulation
from loopgrowth.levels.levels import ascent_of
from loopgrowth.levels.ranks import free_ranks
from loopgrowth.values import is_ascending, is_tuple_of_names


def beyond(graph):
    """The transitions and the counters that are beyond."""
    check_graph(graph)
    ascent = ascent_of(graph)
    names, counters = ascent.left()
    return tuple(name for name in names if name not in ascent.ranks), counters


def doubling(graph):
    """A doubling that has all that is beyond, or None if nothing is."""
    check_graph(graph)
    ascent = ascent_of(graph)
    _, counters = ascent.left()
    if not counters:
        return None
    # At the last level each counter with an exponent is looked at in the components of what is carried, and each one
    # without is gained: this is just what a doubling asks for.
    _, _, amounts = ascent.balances[-1].meeting()
    return amounts, counters


def is_doubling(graph, value):
    """Whether the value is a doubling."""
    check_graph(graph)
    if not isinstance(value, tuple) or len(value) != 2 or not is_circulation(graph, value[0]):
        return False
    amounts, gained = value
    if not is_tuple_of_names(gained) or not gained or not is_ascending(gained):
        return False
    ranks = free_ranks(graph)
    bounded = [counter for counter in graph.counters if counter not in ranks]
    if not all([counter in bounded for counter in gained]):
        return False
    return _gains(graph, amounts, gained) and _keeps(graph, amounts, [one for one in bounded if one not in gained])


def _gains(graph, amounts, counters):
    """Whether these amounts have an effect above 0 on each of the counters; so they are not all 0."""
    effects = effect(graph, amounts)
    return all([effects[counter] > 0 for counter in counters])


def _keeps(graph, amounts, counters):
    """Whether the amounts lessen none of the counters in any component of their support."""
    parts = components(graph, tuple(name for name in amounts if amounts[name] > 0))
    effects = [effect(graph, amounts, part=part) for part in parts]
    return all([within[counter] >= 0 for within in effects for counter in counters])


def joined_doublings(graph, one, other):
    """The doubling with the sums of the amounts and the counters of both."""
    check_graph(graph)
    for value in (one, other):
        if not is_doubling(graph, value):
            raise InvalidOperation("this is no doubling")
    amounts = {name: one[0].get(name, 0) + other[0].get(name, 0) for name in graph.names}
    return amounts, tuple(sorted(set(one[1] + other[1])))
