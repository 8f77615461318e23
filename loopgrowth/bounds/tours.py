"""Tours: closed walks with others within them, which let things grow, and what they take from the counters."""

from loopgrowth.graphs.parts import components, full_circulation, lies_in
from loopgrowth.values import is_integer
from loopgrowth.walks.recipes import Recipe, round_trip


class Tour:
    """A closed walk from a state, on which inner tours can be walked.

    The template has the items of the walk, and the place of an inner tour where this one can be walked. The gains are
    the effect of one round without inner tours, `least` are its needs; it takes the transitions of `takes`.
    """

    __slots__ = ("origin", "takes", "template", "inner", "gains", "least")

    def __init__(self, graph, amounts, part, inner):
        self.origin = part[0]
        self.takes = tuple(name for name in amounts if amounts[name] > 0)
        self.inner = inner
        stops = {one.origin: (place,) for place, one in enumerate(inner)}
        self.template = round_trip(graph, amounts, self.origin, stops)
        alone = Recipe.of(graph, tuple(item for item in self.template if not is_integer(item)), self.origin)
        self.gains = alone.effect
        self.least = alone.needs


def rounds(tour, numbers):
    """The repeat of a tour: so many rounds, in each of them so many of the inner tours, and so on inwards."""
    items = []
    for item in tour.template:
        if not is_integer(item):
            items.append(item)
        elif len(numbers) > 1:
            items.append(rounds(tour.inner[item], numbers[1:]))
    return numbers[0], tuple(items)


def _inside(graph, amounts, part):
    return {name: amounts[name] for name in amounts if lies_in(graph, name, part)}


def part_tours(graph, amounts):
    """The tours of these amounts within the components of their support."""
    parts = components(graph, tuple(name for name in amounts if amounts[name] > 0))
    return [Tour(graph, _inside(graph, amounts, part), part, []) for part in parts]


def whole_tour(graph, inner):
    """A tour of all transitions, with these inner tours."""
    return Tour(graph, full_circulation(graph), graph.states, inner)


def level_tours(graph, ascent, level, last, part):
    """The tours of a level within a part; the inner ones are those of the next level, up to the last one."""
    if level > last:
        return []
    _, _, amounts = ascent.balances[level - 1].meeting()
    below = [one for one in ascent.pieces[level] if one[0] in part]
    return [Tour(graph, _inside(graph, amounts, one), one, level_tours(graph, ascent, level + 1, last, one))
            for one in below]


def reckoned(tour, counter, deep):
    """What a round of a tour adds to a counter, and how far n rounds lower it at most, both by powers of n.

    So many levels of inner tours are walked, each of them n times in each round of the one around it. The second list
    has no number below 0.
    """
    sums, low, deepest = [tour.gains[counter]], [tour.least[counter]], []
    for inner in tour.inner if deep > 0 else []:
        gains, drop = reckoned(inner, counter, deep - 1)
        sums = _added(sums, [0] + gains)
        low = _added(low, [0] + losses(gains))
        deepest = _greatest(deepest, drop)
    return sums, _added(_added(low, deepest), [0] + losses(sums))


def losses(numbers):
    """How much less than 0 each of these numbers is."""
    return [max(0, -number) for number in numbers]


def _wide(numbers, many):
    return numbers + [0 for _ in range(many - len(numbers))]


def _added(one, two):
    many = max(len(one), len(two))
    return [first + second for first, second in zip(_wide(one, many), _wide(two, many))]


def _greatest(one, two):
    many = max(len(one), len(two))
    return [max(first, second) for first, second in zip(_wide(one, many), _wide(two, many))]
