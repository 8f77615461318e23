"""Values that many tests use: the graphs of the document, odd values, and graphs made at random from fixed seeds."""

import random

from loopgrowth.graphs.graphs import Graph

SHUTTLE = Graph(("x", "y", "z"), ("a", "p", "p", (("x", -1), ("y", 1))), ("b", "q", "q", (("x", 1), ("y", -1))),
                ("go", "p", "q", ()), ("back", "q", "p", (("z", -1),)))
DOUBLE = SHUTTLE.without("b").with_transitions(("b", "q", "q", (("x", 2), ("y", -1))))
PUMP = Graph(("u", "z"), ("a", "s", "s", (("u", 1),)), ("b", "t", "t", (("u", -1),)),
             ("go", "s", "t", (("z", -1),)), ("back", "t", "s", ()))
EMPTY = Graph(("x",), states=("p",))


def nested(deep):
    """A tuple in a tuple, so many deep."""
    value = ()
    for _ in range(deep):
        value = (value,)
    return value


def odd_values():
    """Values of every kind that an argument can have, each made anew."""
    return [
        None, True, False, 0, 1, -1, 7, 10 ** 999, -10 ** 999, "", "a", "x", "p", "A", "nosuchname", "zz", " ", "a b",
        (), ("a",), ("x", "y"), (1,), (True,), (None,), ((),), nested(10), [], ["a"], [[]], {}, {"a": 1}, {1: "a"},
        {(): []}, {"a": []}, {None: None}, SHUTTLE, EMPTY, SHUTTLE["a"], SHUTTLE.change("a"), SHUTTLE.transitions,
        (SHUTTLE,), ("shares", ()), ("forces", []), ((), ()), ([], []), ("least", ()),
    ]


def odd_numbers():
    """Values that are no integer of at least 0."""
    return [value for value in odd_values() if not (type(value) is int and value >= 0)] + [-5, "0", (0,), [3]]


def odd_names(*allowed):
    """Values that are none of these names."""
    return [value for value in odd_values() if not (isinstance(value, str) and value in allowed)]


def random_change(source, counters, greatest):
    change = []
    for counter in counters:
        amount = source.randint(-greatest, greatest)
        if amount and source.random() < 0.6:
            change.append((counter, amount))
    return tuple(change)


def random_graph(seed, greatest=9):
    """A graph in which a round through all states makes every state lead to every other one."""
    source = random.Random(seed)
    counters = source.sample("vwxyz", source.randint(1, 5))
    states = source.sample("pqrstuvw", source.randint(1, 8))
    names = source.sample([one + two for one in "abcdefgh" for two in "abcd"], 16)
    links = [(states[at - 1], states[at]) for at in range(len(states))] if len(states) > 1 else []
    while len(links) < source.randint(max(1, len(links)), 16):
        links.append((source.choice(states), source.choice(states)))
    transitions = [(name, begin, end, random_change(source, sorted(counters), greatest))
                   for name, (begin, end) in zip(names, links)]
    source.shuffle(transitions)
    return Graph(tuple(counters), *transitions)
