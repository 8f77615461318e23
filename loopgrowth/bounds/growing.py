"""Recipes that reach the growth of a thing from a size that is not too great."""

from loopgrowth.bounds.polynomials import Polynomial
from loopgrowth.bounds.tours import level_tours, losses, part_tours, reckoned, rounds, whole_tour
from loopgrowth.errors import InvalidRecipe
from loopgrowth.graphs.checks import check_graph, check_number, check_thing
from loopgrowth.graphs.graphs import keep, kept
from loopgrowth.graphs.parts import way
from loopgrowth.levels.levels import ascent_of
from loopgrowth.levels.ranks import ranks_paper
from loopgrowth.walks.recipes import Recipe

# What is beyond is doubled once in each stage, until there would be too many stages; then each stage doubles it more
# often, but not more than so often. So recipes are short, and sizes are small where goals are.
_MANY_STAGES = 64
_MOST_DOUBLINGS = 64
_PLAN = "plan"


class Plan:
    """What the recipes of a graph are made of.

    `pumps` are pairs of a rank and a tour that raises things of this rank. `whole` is the tour for powers: its stage k
    has factors[k] * n rounds, in each of them as many of the tours of level 1, and so on up to level k; n is as great
    as the goal asks for. `spread` is the tour for what is beyond, with the tours of the last level within it: a round
    lowers no counter by more than `turns` for each round of these, and raises what is beyond by at least 1 for each.
    """

    def __init__(self, graph):
        self.ascent = ascent_of(graph)
        self.pumps = _pumps(graph)
        self.whole = None
        self.factors = []
        self.spread = None
        self.turns = 1
        self.scale = 1
        if graph:
            size = max(self._powers_laid(graph), self._beyond_laid(graph))
            self.scale = max(1, size + _pumping_size(graph, self.pumps))

    def _powers_laid(self, graph):
        """Lays what is needed for powers, and returns how much for each n is enough."""
        ascent = self.ascent
        last = max([ascent.found[thing] for thing in ascent.found], default=1) - 1
        self.whole = whole_tour(graph, level_tours(graph, ascent, 1, last, graph.states))
        told = [{counter: reckoned(self.whole, counter, stage) for counter in ascent.bounded}
                for stage in range(last + 1)]
        self.factors = _factors(told, ascent.found)
        return max([_power_size(told, self.factors, counter) for counter in ascent.bounded], default=0)

    def _beyond_laid(self, graph):
        """Lays what is needed for what is beyond, and returns how much for each digit of a goal is enough."""
        _, counters = self.ascent.left()
        if not counters:
            return 0
        _, _, amounts = self.ascent.balances[-1].meeting()
        self.spread = whole_tour(graph, part_tours(graph, amounts))
        self.turns = max([_lowered(self.spread, counter) for counter in self.ascent.bounded] + [1])
        most = self.turns << _MOST_DOUBLINGS
        return max([losses([self.spread.gains[counter]])[0] * most + _first_need(self.spread, counter)
                    for counter in self.ascent.bounded])


def _pumps(graph):
    """Pairs of a rank and a tour, for each component of the last round of each rank."""
    pumps = []
    for rank, paper in enumerate(ranks_paper(graph)):
        _, _, amounts = paper[-1]
        pumps.extend([(rank, tour) for tour in part_tours(graph, amounts)])
    return pumps


def _pumping_size(graph, pumps):
    """From this size all pumps can be walked, each as often as the later ones need."""
    greatest = max([abs(amount) for _, _, _, change in graph for _, amount in change], default=0)
    ways = len(pumps) * (len(graph.states) - 1) * greatest
    return ways + max([tour.least[counter] for _, tour in pumps for counter in graph.counters], default=0)


def _factors(told, found):
    """For each stage of the powers a factor, so that what it gains is enough for all later stages.

    A stage needs of a counter no more than a multiple of n ** power, and the stage power - 1 gains as much of it. The
    multiples of n are left to the size.
    """
    factors = [1 for _ in told]
    for stage in range(len(told) - 1, 1, -1):
        for counter in told[stage]:
            power = min(found.get(counter, stage), stage)
            if power > 1:
                gains, _ = told[power - 1][counter]
                _, needs = told[stage][counter]
                raised = _power(power, 1)
                goal = sum(needs[2:]) * raised(factors[stage])
                factors[power - 1] = max(factors[power - 1], _power(power, gains[power - 1]).reach(goal))
    return factors


def _power_size(told, factors, counter):
    """How much of a counter is enough for each n, for all stages of the powers one behind the other."""
    gains, needs = told[0][counter]
    sizes = [sum(needs)]
    spent = 0
    for stage in range(1, len(told)):
        _, needs = told[stage][counter]
        sizes.append(spent + sum(needs[:2]) * factors[stage])
        # A stage lessens a counter only by what its rounds lose without inner tours.
        spent = spent + losses(gains)[0] * factors[stage]
    return max(sizes)


def _power(exponent, factor):
    """The polynomial that has this power of n alone."""
    zeros = [0 for _ in range(exponent)]
    return Polynomial(*zeros, factor)


def _lowered(spread, counter):
    """How far a round lowers a counter for each round of its inner tours."""
    lost = losses([inner.gains[counter] for inner in spread.inner])
    return sum(lost) + max(lost)


def _first_need(spread, counter):
    """How far a round lowers a counter that has one round of each inner tour."""
    return spread.least[counter] + max([inner.least[counter] for inner in spread.inner]) + _lowered(spread, counter)


def _plan(graph):
    """The plan of a graph; it is made once."""
    return kept(graph, _PLAN) or keep(graph, _PLAN, Plan(graph))


def scale(graph):
    """A number by which recipes reach all growths of the graph."""
    check_graph(graph)
    return _plan(graph).scale


def growing(graph, thing, goal):
    """A size, and a recipe that reaches the goal from it."""
    check_graph(graph)
    check_thing(graph, thing)
    check_number(goal)
    plan = _plan(graph)
    # A counter is as great as the size at the beginning.
    if goal == 0 or thing in graph.counters and goal <= _greatest_size(plan, thing, goal):
        return goal, Recipe.of(graph, ())
    recipe = _grown(graph, plan, thing, goal)
    needs = recipe.needs
    size = max([needs[counter] for counter in needs])
    if thing in graph.counters:
        size = max(size, goal - recipe.highest(thing))
    return size, recipe


def _greatest_size(plan, thing, goal):
    """The greatest size that may stand beside a recipe."""
    if thing in plan.ascent.found:
        return plan.scale * _root_above(goal, plan.ascent.found[thing])
    return plan.scale if thing in plan.ascent.ranks else plan.scale * goal.bit_length()


def _root_above(goal, exponent):
    """The least n whose power is greater than the goal."""
    return _power(exponent, 1).reach(goal + 1)


def _grown(graph, plan, thing, goal):
    """A recipe by which the thing grows as far as the goal asks for."""
    if thing in plan.ascent.ranks:
        return _walked(graph, _raising_steps(graph, plan, thing, goal))
    if thing in plan.ascent.found:
        items = _power_items(plan, plan.ascent.found[thing], goal)
    else:
        items = _beyond_items(plan, goal)
    main = Recipe.of(graph, items, graph.states[0])
    needs = main.needs
    steps = _supply(plan, {counter: needs[counter] for counter in _free_counters(graph, plan)}, len(plan.pumps))
    if not steps:
        return main
    pumping = _walked(graph, steps)
    return pumping + Recipe.of(graph, way(graph, pumping.end, main.start), pumping.end) + main


def _free_counters(graph, plan):
    return [counter for counter in graph.counters if counter in plan.ascent.ranks]


def _power_items(plan, exponent, goal):
    """The stages by which a thing with this exponent is taken, or raised, as often as the goal says."""
    n = _root_above(goal, exponent)
    stages = list(range(1, exponent)) or [0]
    return tuple([rounds(plan.whole, [plan.factors[stage] * n for _ in range(stage + 1)]) for stage in stages])


def _beyond_items(plan, goal):
    """The stages by which a thing that is beyond is taken, or raised, as often as the goal says."""
    digits = goal.bit_length()
    each = min(_MOST_DOUBLINGS, (digits - 1) // _MANY_STAGES + 1)
    many = (digits - 1) // each + 1
    # Each stage gains what one needs with 2 ** each times as many inner rounds; the last one gains the goal.
    return tuple([rounds(plan.spread, [plan.turns << each, 1 << each * stage]) for stage in range(many)])


def _raising_steps(graph, plan, thing, goal):
    """The steps by which a free thing is taken, or raised, as often as the goal says."""
    rank = plan.ascent.ranks[thing]
    counters = _free_counters(graph, plan)
    if thing in counters:
        return _supply(plan, {counter: goal if counter == thing else 0 for counter in counters}, rank + 1)
    tours = [tour for at, tour in plan.pumps if at == rank and thing in tour.takes]
    lost = losses([tours[0].gains[counter] for counter in counters])
    wanted = {counter: goal * number for counter, number in zip(counters, lost)}
    return _supply(plan, wanted, rank) + [(tours[0], goal)]


def _supply(plan, wanted, many):
    """Pairs of a tour and its rounds that raise free counters as far as is wanted, by the pumps of so many ranks."""
    steps = []
    # From the last step on: what it takes from counters of lesser ranks, those ahead of it have to raise.
    for rank, tour in plan.pumps[::-1]:
        if rank >= many:
            continue
        rising = [counter for counter in wanted if plan.ascent.ranks[counter] == rank and tour.gains[counter] > 0]
        turns = max([(wanted[counter] - 1) // tour.gains[counter] + 1 for counter in rising], default=0)
        if turns > 0:
            steps.append((tour, turns))
            wanted = {counter: max(0, wanted[counter] - turns * tour.gains[counter]) for counter in wanted}
    return steps[::-1]


def _walked(graph, steps):
    """The recipe of the rounds of some tours, with the ways between them."""
    here = steps[0][0].origin
    items = []
    for tour, turns in steps:
        items.extend(list(way(graph, here, tour.origin)))
        items.append(rounds(tour, [turns]))
        here = tour.origin
    return Recipe.of(graph, tuple(items), steps[0][0].origin)


def reaches(graph, thing, goal, size, recipe):
    """Whether the recipe reaches the goal for the thing from this size."""
    check_graph(graph)
    check_thing(graph, thing)
    check_number(goal)
    check_number(size)
    if not isinstance(recipe, Recipe) or recipe.graph != graph:
        raise InvalidRecipe("this is no recipe of this graph")
    needs = recipe.needs
    if not all([needs[counter] <= size for counter in needs]):
        return False
    if thing in graph:
        return recipe.taken(thing) >= goal
    return size + recipe.highest(thing) >= goal
