"""Greatest numbers of small runs, found by a trial of all configurations."""

from loopgrowth.errors import InvalidOperation, TooMany
from loopgrowth.graphs.checks import check_counters, check_graph, check_number, check_thing

MAX_MET = 3000


class Tried:
    """All configurations that are met by runs of one size, in the order of the fewest steps to them.

    A configuration is the place of its state, and the values of the counters that are looked at. The links of each one
    are pairs of a transition and the index of a configuration; `came` has the link by which each one was met first,
    turned round.
    """

    def __init__(self, graph, size, without):
        self.looked_at = tuple(counter for counter in graph.counters if counter not in without)
        self.starts = [(place,) + tuple(size for _ in self.looked_at) for place in range(len(graph.states))]
        self.met = list(self.starts)
        self.came = [("", -1) for _ in self.starts]
        self.links = []
        steps = _steps(graph, self.looked_at)
        known = {configuration: at for at, configuration in enumerate(self.met)}
        while len(self.links) < len(self.met):
            at = len(self.links)
            self.links.append(self._links_from(at, steps[self.met[at][0]], known))

    def _links_from(self, at, steps, known):
        """The links of a configuration; those that are new become known."""
        here = self.met[at]
        links = []
        for name, moves in steps:
            there = tuple([value + move for value, move in zip(here, moves)])
            if min(there) < 0:
                continue
            if there not in known:
                if len(self.met) == MAX_MET:
                    raise TooMany(MAX_MET)
                known[there] = len(self.met)
                self.met.append(there)
                self.came.append((name, at))
            links.append((name, known[there]))
        return links


def _steps(graph, counters):
    """For the place of each state the transitions that leave it, with what they add to each part of a configuration."""
    places = {state: place for place, state in enumerate(graph.states)}
    steps = [[] for _ in graph.states]
    for name, source, target, _ in graph:
        change = graph.change(name)
        moves = [places[target] - places[source]] + [change[counter] for counter in counters]
        steps[places[source]].append((name, moves))
    return steps


def _rounds(links):
    """For each configuration a number: equal ones lead to one another, and none leads to a lesser number."""
    back = [[] for _ in links]
    for here, row in enumerate(links):
        for _, there in row:
            back[there].append(here)
    numbers = [-1 for _ in links]
    many = 0
    for root in _left_last(links)[::-1]:
        waiting = [root] if numbers[root] < 0 else []
        many = many + len(waiting)
        while waiting:
            here = waiting.pop()
            if numbers[here] < 0:
                numbers[here] = many
                waiting.extend([there for there in back[here] if numbers[there] < 0])
    return numbers


def _left_last(links):
    """The configurations in the order in which a search that goes on as long as it can leaves them."""
    order = []
    known = [False for _ in links]
    for root in range(len(links)):
        waiting = [root]
        while waiting:
            here = waiting.pop()
            if here < 0:
                order.append(-1 - here)
            elif not known[here]:
                known[here] = True
                waiting.append(-1 - here)
                waiting.extend([there for _, there in links[here] if not known[there]])
    return order


def _most(links, names):
    """For each configuration how many of these transitions a run from there takes at most, or None."""
    numbers = _rounds(links)
    best = {number: 0 for number in numbers}
    # The greatest numbers first: what they lead to is known then.
    for here in sorted(range(len(links)), key=lambda at: -numbers[at]):
        for name, there in links[here]:
            more = 1 if name in names else 0
            if more == 1 and numbers[here] == numbers[there]:
                return None
            best[numbers[here]] = max(best[numbers[here]], more + best[numbers[there]])
    return [best[number] for number in numbers]


def met(graph, size, *, without=()):
    """The number of configurations that runs of this size meet."""
    check_graph(graph)
    check_number(size)
    check_counters(graph, without)
    return len(Tried(graph, size, without).met)


def longest(graph, size, *, without=()):
    """The number of steps of the longest run of this size, or None."""
    check_graph(graph)
    check_number(size)
    check_counters(graph, without)
    most = _most(Tried(graph, size, without).links, graph.names)
    return None if most is None else max(most)


def _check_thing_of(graph, thing, size, without):
    check_graph(graph)
    check_thing(graph, thing)
    check_number(size)
    check_counters(graph, without)
    if thing in without:
        raise InvalidOperation("this counter is left out")


def greatest(graph, thing, size, *, without=()):
    """How often a run of this size takes the transition at most, or how great the counter can be, or None."""
    _check_thing_of(graph, thing, size, without)
    tried = Tried(graph, size, without)
    if thing in graph:
        most = _most(tried.links, (thing,))
        return None if most is None else max(most)
    return max(_values(tried, thing))


def _values(tried, counter):
    """The values of a counter in all configurations."""
    place = 1 + tried.looked_at.index(counter)
    return [configuration[place] for configuration in tried.met]


def greatest_run(graph, thing, size, *, without=()):
    """A state, and a run from there that reaches the greatest number by the fewest steps, or None."""
    _check_thing_of(graph, thing, size, without)
    tried = Tried(graph, size, without)
    if thing not in graph:
        values = _values(tried, thing)
        start, names = _way_to(tried, values.index(max(values)))
        return graph.states[start], names
    most = _most(tried.links, (thing,))
    if most is None:
        return None
    start, names = _way_from_start(tried, most, thing)
    return graph.states[start], names


def _way_to(tried, at):
    """The start from which a configuration was met first, and the transitions of the way to it."""
    names = []
    while tried.came[at][1] >= 0:
        name, at = tried.came[at]
        names.append(name)
    return at, tuple(names[::-1])


def _way_from_start(tried, most, thing):
    """The start and the transitions of a run that takes the transition as often as can be, by the fewest steps."""
    # No step of such a run loses any of what it can still take; it ends where nothing is left.
    kept = [[(name, there) for name, there in row if (1 if name == thing else 0) + most[there] == most[here]]
            for here, row in enumerate(tried.links)]
    far = _distances(kept, [at for at in range(len(most)) if most[at] == 0])
    best = max(most)
    start = min([at for at in range(len(tried.starts)) if most[at] == best], key=lambda at: far[at])
    here, names = start, []
    while most[here] > 0:
        name, here = min(kept[here], key=lambda link: far[link[1]])
        names.append(name)
    return start, tuple(names)


def _distances(links, ends):
    """A dict from the configurations to the fewest steps from them to one of these ends."""
    back = [[] for _ in links]
    for here, row in enumerate(links):
        for _, there in row:
            back[there].append(here)
    far = {at: 0 for at in ends}
    layer = ends
    while layer:
        before = layer
        layer = []
        for there in before:
            for here in back[there]:
                if here not in far:
                    far[here] = far[there] + 1
                    layer.append(here)
    return far
