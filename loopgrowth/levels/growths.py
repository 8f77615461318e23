"""Growths: a power, beyond every power, or free."""

from loopgrowth.errors import InvalidOperation
from loopgrowth.graphs.checks import check_graph, check_thing
from loopgrowth.levels.ladders import is_shown_by, levels_for, meetings_of
from loopgrowth.levels.levels import ascent_of
from loopgrowth.levels.ranks import free_ranks, is_ranks_paper, ranks_paper
from loopgrowth.values import is_natural

_POWER = "power"
_BEYOND = "beyond"
_FREE = "free"
_CONSTANT = ("power", 0)


def growths(graph):
    """A dict from all things to their growths."""
    check_graph(graph)
    ascent = ascent_of(graph)
    return {thing: _growth_behind(ascent, thing) for thing in sorted([*graph.counters, *graph.names])}


def _growth_behind(ascent, thing):
    """The growth that the levels show."""
    if thing in ascent.ranks:
        return _FREE, ascent.ranks[thing]
    if thing in ascent.found:
        return _POWER, ascent.found[thing]
    return (_BEYOND,)


def growth(graph, thing):
    """The growth of one thing."""
    check_graph(graph)
    check_thing(graph, thing)
    return _growth_behind(ascent_of(graph), thing)


def growth_paper(graph):
    """A pair of a ranks paper and a levels paper."""
    return ranks_paper(graph), meetings_of(ascent_of(graph))


def is_growth_paper(graph, value):
    """Whether the value is a pair of a ranks paper and a levels paper."""
    check_graph(graph)
    if not isinstance(value, tuple) or len(value) != 2 or not is_ranks_paper(graph, value[0]):
        return False
    # The ranks are those that the paper shows: behind it, and behind a right levels paper, nothing is searched for.
    return is_shown_by(levels_for(graph, free_ranks(graph)), value[1])


def growths_by(graph, paper):
    """The growths that a growth paper shows."""
    check_graph(graph)
    if not is_growth_paper(graph, paper):
        raise InvalidOperation("this is no growth paper")
    return growths(graph)


def is_growth(value):
    """Whether the value is a growth."""
    if not isinstance(value, tuple) or not value:
        return False
    if value[0] == _BEYOND:
        return len(value) == 1
    return value[0] in (_POWER, _FREE) and len(value) == 2 and is_natural(value[1])


def _check_growths(values):
    for value in values:
        if not is_growth(value):
            raise InvalidOperation("this is no growth")


def _place(one):
    """What has the order of the growths; all free ones have one place."""
    if one[0] == _POWER:
        return 0, one[1]
    return (1, 0) if one[0] == _BEYOND else (2, 0)


def compared(growth, other):
    """How the first growth stands to the other one: "less", "equal" or "greater"."""
    _check_growths((growth, other))
    if _place(growth) == _place(other):
        return "equal"
    return "less" if _place(growth) < _place(other) else "greater"


def greatest_growth(*growths):
    """The greatest of these growths, of several free ones that with the least rank."""
    _check_growths(growths)
    best = _CONSTANT
    for one in growths:
        lower_rank = one[0] == _FREE == best[0] and one[1] < best[1]
        if lower_rank or _place(one) > _place(best):
            best = one
    return best


def steps_growth(graph):
    """The growth of the greatest number of steps: that of the transition that grows most."""
    told = growths(graph)
    found = [told[name] for name in graph.names]
    return greatest_growth(*found)
