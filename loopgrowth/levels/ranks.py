"""Ranks: the transitions and counters that have no greatest number."""

from loopgrowth.errors import InvalidOperation
from loopgrowth.graphs.checks import check_graph, check_thing
from loopgrowth.levels.endless import endless_paper, endless_walk, is_endless_paper, shown_endless


def free(graph):
    """A dict from the free things to their ranks."""
    return shown_ranks(ranks_paper(graph))


def ranks_paper(graph):
    """Endless papers for the counters that each rank looks at, from rank 0 to the last one."""
    check_graph(graph)
    papers, before, counters = [], (), graph.counters
    while counters != before:
        papers.append(endless_paper(graph, counters))
        before, counters = counters, _left(counters, papers[-1])
    return tuple(papers)


def _left(counters, paper):
    """The counters that an endless paper does not show to be gained."""
    _, gained = shown_endless(paper)
    return tuple(counter for counter in counters if counter not in gained)


def is_ranks_paper(graph, value):
    """Whether the value is endless papers for the counters that each rank looks at, from rank 0 to the last one."""
    check_graph(graph)
    if not isinstance(value, tuple):
        return False
    counters = graph.counters
    for at, paper in enumerate(value):
        if not is_endless_paper(graph, counters, paper):
            return False
        left = _left(counters, paper)
        if left == counters:
            return at == len(value) - 1
        counters = left
    return False


def shown_ranks(paper):
    """A dict from the free things to the ranks that a ranks paper shows."""
    ranks = {}
    for rank, told in enumerate(paper):
        names, counters = shown_endless(told)
        for thing in names + counters:
            ranks.setdefault(thing, rank)
    return {thing: ranks[thing] for thing in sorted(list(ranks))}


def free_walk(graph, thing):
    """A recipe as `endless_walk` returns them, for the counters that have no lesser rank than the thing."""
    check_graph(graph)
    check_thing(graph, thing)
    ranks = free(graph)
    if thing not in ranks:
        raise InvalidOperation("this thing has a greatest number")
    counters = tuple(counter for counter in graph.counters if ranks.get(counter, ranks[thing]) >= ranks[thing])
    return endless_walk(graph, counters, thing)
