"""Values that many tests use: the graphs of the document, odd values, and graphs made at random from fixed seeds."""

import random

from loopgrowth.graphs.graphs import Graph

SHUTTLE = Graph(("x", "y", "z"), ("a", "p", "p", (("x", -1), ("y", 1))), ("b", "q", "q", (("x", 1), ("y", -1))),
                ("go", "p", "q", ()), ("back", "q", "p", (("z", -1),)))
DOUBLE = SHUTTLE.without("b").with_transitions(("b", "q", "q", (("x", 2), ("y", -1))))
PUMP = Graph(("u", "z"), ("a", "s", "s", (("u", 1),)), ("b", "t", "t", (("u", -1),)),
             ("go", "s", "t", (("z", -1),)), ("back", "t", "s", ()))
EMPTY = Graph(("x",), states=("p",))


def nested(deep):
    """A tuple in a tuple, so many deep."""
    value = ()
    for _ in range(deep):
        value = (value,)
    return value


def odd_values():
    """Values of every kind that an argument can have, each made anew."""
    return [
        None, True, False, 0, 1, -1, 7, 10 ** 999, -10 ** 999, "", "a", "x", "p", "A", "nosuchname", "zz", " ", "a b",
        (), ("a",), ("x", "y"), (1,), (True,), (None,), ((),), nested(10), [], ["a"], [[]], {}, {"a": 1}, {1: "a"},
        {(): []}, {"a": []}, {None: None}, SHUTTLE, EMPTY, SHUTTLE["a"], SHUTTLE.change("a"), SHUTTLE.transitions,
        (SHUTTLE,), ("shares", ()), ("forces", []), ((), ()), ([], []), ("least", ()),
    ]


def odd_numbers():
    """Values that are no integer of at least 0."""
    return [value for value in odd_values() if not (type(value) is int and value >= 0)] + [-5, "0", (0,), [3]]


def odd_names(*allowed):
    """Values that are none of these names."""
    return [value for value in odd_values() if not (isinstance(value, str) and value in allowed)]


def random_change(source, counters, greatest):
    change = []
    for counter in counters:
        amount = source.randint(-greatest, greatest)
        if amount and source.random() < 0.6:
            change.append((counter, amount))
    return tuple(change)


def random_graph(seed, greatest=9):
    """A graph in which a round through all states makes every state lead to every other one."""
    source = random.Random(seed)
    counters = source.sample("vwxyz", source.randint(1, 5))
    states = source.sample("pqrstuvw", source.randint(1, 8))
    names = source.sample([one + two for one in "abcdefgh" for two in "abcd"], 16)
    links = [(states[at - 1], states[at]) for at in range(len(states))] if len(states) > 1 else []
    while len(links) < source.randint(max(1, len(links)), 16):
        links.append((source.choice(states), source.choice(states)))
    transitions = [(name, begin, end, random_change(source, sorted(counters), greatest))
                   for name, (begin, end) in zip(names, links)]
    source.shuffle(transitions)
    return Graph(tuple(counters), *transitions)


def loop_graph(seed, most=16):
    """A graph with many loops at its states and small changes, so that rounds and levels find much."""
    source = random.Random(seed)
    counters = "uvxyz"[:source.randint(1, 5)]
    states = "abcdefgh"[:source.randint(1, min(8, max(1, most // 2)))]
    links = [(states[at - 1], states[at]) for at in range(len(states))] if len(states) > 1 else []
    for _ in range(source.randint(0 if links else 1, most - len(links))):
        begin = source.choice(states)
        links.append((begin, begin if source.random() < 0.6 else source.choice(states)))
    greatest, rising = source.choice((1, 1, 2, 9)), source.choice((0.1, 0.3, 0.5))
    transitions = []
    for at, (begin, end) in enumerate(links):
        chosen = [counter for counter in counters if source.random() < 0.4]
        change = tuple((counter, source.randint(1, greatest) * (1 if source.random() < rising else -1))
                       for counter in chosen)
        transitions.append(("t" + chr(97 + at), begin, end, change))
    return Graph(tuple(counters), *transitions)


def graph_of(counters, *lines):
    """A graph written short: lines like "a p q: x-1 y+2"."""
    transitions = []
    for line in lines:
        head, _, changes = line.partition(":")
        change = tuple(sorted((word[0], int(word[1:])) for word in changes.split()))
        transitions.append((*head.split(), change))
    return Graph(tuple(counters.split()), *transitions)


# x and y move to and fro at a cost of x: n ** 2 moves. These raise w, which pays for further ways: n ** 3 moves. Or w
# moves against v: n ** 4 moves. These raise u, which pays for the ways on which w and v move once more: n ** 6 moves.
SQUARE = graph_of("x y", "a p p: x-1 y+1", "b q q: y-1 x+1", "go p q:", "back q p: x-1")
CUBE = graph_of("x y w", "a p p: x-1 y+1 w+1", "b q q: y-1 x+1", "go p q:", "back q p: x-1",
                "c r r: x-1 y+1", "d s s: y-1 x+1", "on r s:", "off s r: w-1", "in p r:", "out r p: x-1")
FOURTH = graph_of("x y w v", "a p p: x-1 y+1 w+1", "b q q: y-1 x+1", "go p q:", "back q p: x-1",
                  "c r r: w-1 v+1", "d s s: v-1 w+1", "on r s:", "off s r: w-1", "in p r:", "out r p: x-1")
SIXTH = graph_of("x y w v u", "a p p: x-1 y+1 w+1", "b q q: y-1 x+1", "go p q:", "back q p: x-1",
                 "c r r: w-1 v+1 u+1", "d s s: v-1 w+1", "on r s:", "off s r: w-1",
                 "e t t: w-1 v+1", "f o o: v-1 w+1", "ahead t o:", "again o t: u-1",
                 "in p r:", "over r t:", "out t p: x-1")

# x doubles, and v and w move to and fro, n ** 2 times: what the first level carries lessens v at p, what the last one
# carries does not.
BESIDE = graph_of("x y v w z", "a p p: x-1 y+1", "b q q: y-1 x+2", "c p p: v-1 w+1", "d q q: w-1 v+1", "go p q:",
                  "back q p: z-1")


def moving_graph(seed):
    """A graph whose loops move amounts from one counter to another one, and whose ways cost something."""
    source = random.Random(seed)
    counters, states = "vwxy"[:source.randint(2, 4)], "pqrs"[:source.randint(2, 4)]
    rows = []
    for at, state in enumerate(states):
        rows.append(("way" + state, states[at - 1], state, (("z", -1),)))
        for many in range(source.randint(1, 2)):
            one, two = sorted(source.sample(counters, 2))
            first, second = source.choice(((1, -1), (-1, 1), (-1, 2), (2, -1), (3, -2), (-1, 1)))
            rows.append((state + "ab"[many], state, state, ((one, first), (two, second))))
    return Graph((*counters, "z"), *rows)


def changed_values(value):
    """The value with one thing in it otherwise, and with one thing more or less, in each tuple and dict."""
    if isinstance(value, bool) or value is None or isinstance(value, str):
        return [None, 0, ()]
    if isinstance(value, int):
        return [value + 1, value - 1, -value, 2 * value, 0, None, True, str(value)[:5], (value,)]
    if isinstance(value, tuple):
        inner = [value[:at] + (one,) + value[at + 1:] for at in range(len(value)) for one in changed_values(value[at])]
        return [value[:at] + value[at + 1:] for at in range(len(value))] + [value + value[-1:], list(value)] + inner
    inner = [{**value, key: one} for key in value for one in changed_values(value[key])]
    less = [{other: told for other, told in value.items() if other != key} for key in value]
    return less + [{**value, "nosuch": 1}, list(value.items())] + inner


def scaled_meeting(meeting, one, two, shift=0):
    """Another meeting of the same balance: both of its sides multiplied, and the offsets moved."""
    weights, offsets, amounts = meeting
    return ({row: one * weight for row, weight in weights.items()},
            {state: one * offset + shift for state, offset in offsets.items()},
            {name: two * amount for name, amount in amounts.items()})


def scaled_papers(paper):
    """Papers with other meetings in the same places; papers may be nested."""
    if isinstance(paper, tuple) and len(paper) == 3 and all(isinstance(told, dict) for told in paper):
        return [scaled_meeting(paper, 7, 1), scaled_meeting(paper, 1, 10 ** 90, 5),
                scaled_meeting(paper, 3, 2, -10 ** 30)]
    return [tuple(told) for told in zip(*[scaled_papers(one) for one in paper])]
