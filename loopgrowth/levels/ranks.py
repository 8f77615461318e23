"""Ranks: the transitions and counters that have no greatest number."""

from loopgrowth.errors import InvalidOperation
from loopgrowth.graphs.checks import check_graph, check_thing
from loopgrowth.graphs.graphs import keep, kept
from loopgrowth.levels.endless import endless, endless_paper, endless_walk, is_endless_paper

_RANKS = "ranks"


def free(graph):
    """A dict from the free things to their ranks."""
    check_graph(graph)
    ranks = free_ranks(graph)
    return {thing: ranks[thing] for thing in ranks}


def free_ranks(graph):
    """The same; it is kept with the graph, and not to be changed."""
    ranks = kept(graph, _RANKS)
    return keep(graph, _RANKS, _ranks_of(graph)) if ranks is None else ranks


def _ranks_of(graph):
    ranks = {}
    for rank, counters in enumerate(_counters_by_rank(graph)):
        names, gained = endless(graph, counters)
        for thing in names + gained:
            ranks.setdefault(thing, rank)
    return {thing: ranks[thing] for thing in sorted(list(ranks))}


def _counters_by_rank(graph):
    """The counters at which each rank looks, from rank 0 to the last one."""
    told, counters = [], graph.counters
    while not told or counters != told[-1]:
        told.append(counters)
        counters = _left(graph, counters)
    return told


def _left(graph, counters):
    """Those of the counters that are not gained where just these are looked at."""
    _, gained = endless(graph, counters)
    return tuple(counter for counter in counters if counter not in gained)


def ranks_paper(graph):
    """Endless papers for the counters at which each rank looks, from rank 0 to the last one."""
    check_graph(graph)
    return tuple(endless_paper(graph, counters) for counters in _counters_by_rank(graph))


def is_ranks_paper(graph, value):
    """Whether the value is endless papers for the counters at which each rank looks, from rank 0 to the last one."""
    check_graph(graph)
    if not isinstance(value, tuple):
        return False
    counters = graph.counters
    for at, paper in enumerate(value):
        if not is_endless_paper(graph, counters, paper):
            return False
        # Behind a right paper nothing is left to be searched for.
        left = _left(graph, counters)
        if left == counters:
            return at == len(value) - 1
        counters = left
    return False


def free_walk(graph, thing):
    """A recipe as `endless_walk` returns them, for the counters that have no lesser rank than the thing."""
    check_graph(graph)
    check_thing(graph, thing)
    ranks = free_ranks(graph)
    if thing not in ranks:
        raise InvalidOperation("this thing has a greatest number")
    counters = tuple(counter for counter in graph.counters if ranks.get(counter, ranks[thing]) >= ranks[thing])
    return endless_walk(graph, counters, thing)
