"""Written bounds: polynomials that no run of any size exceeds."""

from loopgrowth.bounds.polynomials import Polynomial
from loopgrowth.graphs.checks import check_graph, check_thing
from loopgrowth.graphs.graphs import keep, kept
from loopgrowth.levels.ladders import meetings_of
from loopgrowth.levels.levels import ascent_of, check_levels_paper

_BOUNDS = "bounds"


def bound(graph, thing):
    """A bound of the thing, or None if its growth is no power."""
    check_graph(graph)
    check_thing(graph, thing)
    ascent = ascent_of(graph)
    return _own_bounds(graph, ascent)[ascent.found[thing]] if thing in ascent.found else None


def bounds(graph):
    """A dict from all things whose growth is a power to bounds."""
    check_graph(graph)
    ascent = ascent_of(graph)
    by_level = _own_bounds(graph, ascent)
    return {thing: by_level[ascent.found[thing]] for thing in sorted(list(ascent.found))}


def _own_bounds(graph, ascent):
    """The level bounds that the program's own levels paper gives; they are kept, and not to be changed."""
    return kept(graph, _BOUNDS) or keep(graph, _BOUNDS, _level_bounds(graph, ascent, meetings_of(ascent)))


def level_bounds(graph, paper):
    """A dict from the exponents of things to the level bounds that a levels paper gives."""
    check_graph(graph)
    check_levels_paper(graph, paper)
    return _level_bounds(graph, ascent_of(graph), paper)


def _level_bounds(graph, ascent, paper):
    """The level bounds by the meetings of a levels paper."""
    told = {}
    for level in sorted({ascent.found[thing] for thing in ascent.found}):
        told[level] = _level_bound(graph, ascent, paper[level - 1], level, told)
    return told


def _level_bound(graph, ascent, meeting, level, lower):
    """The level bound of one level; those of all lower levels are given."""
    weights, offsets, _ = meeting
    heavy = {counter: _greatest_weight(weights, counter) for counter in ascent.bounded}
    whole = sum([heavy[counter] for counter in heavy])
    spread = max([offsets[state] for state in offsets]) - min([offsets[state] for state in offsets])
    told = Polynomial(spread, whole)
    for step in sorted({ascent.found[name] for name in graph.names if ascent.found.get(name, level) < level}):
        between = Polynomial(spread + _greatest_change(graph) * whole)
        for counter in heavy:
            if ascent.found.get(counter, level) <= level - step:
                between = between + lower[ascent.found[counter]] * heavy[counter]
        told = told + lower[step] * between
    return told


def _greatest_weight(weights, counter):
    return max([weights[other, part] for other, part in weights if other == counter], default=0)


def _greatest_change(graph):
    return max([abs(amount) for _, _, _, change in graph for _, amount in change], default=0)
