"""Written bounds: polynomials that no run of any size exceeds."""

from loopgrowth.bounds.polynomials import Polynomial
from loopgrowth.graphs.checks import check_graph, check_thing
from loopgrowth.levels.levels import checked_ascent, climbed
from loopgrowth.levels.ranks import free


def bound(graph, thing):
    """A bound of the thing, or None if its growth is no power."""
    check_graph(graph)
    check_thing(graph, thing)
    return bounds(graph).get(thing)


def bounds(graph):
    """A dict from all things whose growth is a power to bounds."""
    ascent = climbed(graph, free(graph))
    by_level = _level_bounds(graph, ascent)
    exponents = ascent.exponents()
    return {thing: by_level[exponents[thing]] for thing in exponents}


def level_bounds(graph, paper):
    """A dict from the exponents of things to the level bounds that a levels paper gives."""
    return _level_bounds(graph, checked_ascent(graph, paper))


def _level_bounds(graph, ascent):
    """The level bounds by the meetings of a finished ascent."""
    told = {}
    for level in sorted({ascent.found[thing] for thing in ascent.found}):
        told[level] = _level_bound(graph, ascent, level, told)
    return told


def _level_bound(graph, ascent, level, lower):
    """The level bound of one level; those of all lower levels are given."""
    weights, offsets, _ = ascent.meetings[level - 1]
    heavy = {counter: _greatest_weight(weights, counter) for counter in ascent.bounded}
    whole = sum([heavy[counter] for counter in heavy])
    spread = max([offsets[state] for state in offsets]) - min([offsets[state] for state in offsets])
    told = Polynomial(spread, whole)
    for step in sorted({ascent.found[name] for name in graph.names if ascent.found.get(name, level) < level}):
        between = Polynomial(spread + _greatest_change(graph) * whole)
        for counter in heavy:
            if ascent.found.get(counter, level) <= level - step:
                between = between + lower[ascent.found[counter]] * heavy[counter]
        told = told + lower[step] * between
    return told


def _greatest_weight(weights, counter):
    return max([weights[other, part] for other, part in weights if other == counter], default=0)


def _greatest_change(graph):
    return max([abs(amount) for _, _, _, change in graph for _, amount in change], default=0)
