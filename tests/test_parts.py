"""Points 0.13 and 0.14 and stage "parts and circulations"."""

import itertools
import random
import unittest

from loopgrowth.errors import InvalidGraph, InvalidOperation, UnknownName
from loopgrowth.graphs.graphs import Graph
from loopgrowth.graphs.parts import (
    components, cycles, effect, full_circulation, is_circulation, is_packed, is_returning, packed, way,
)
from samples import DOUBLE, EMPTY, PUMP, SHUTTLE, odd_names, odd_numbers, odd_values, random_graph

TWICE = Graph(("x",), ("b", "p", "q", ()), ("a", "p", "q", ()), ("d", "q", "r", ()), ("c", "q", "r", ()),
              ("aa", "p", "r", ()), ("z", "r", "p", ()), ("e", "r", "r", ()))


def odd_tuples():
    """Values that are no tuple."""
    return [value for value in odd_values() if not isinstance(value, tuple)] + [["a"], {"a": 1}, "a"]


def reached(links):
    paths = set(links)
    states = {state for link in links for state in link}
    for middle, one, two in itertools.product(sorted(states), repeat=3):
        if (one, middle) in paths and (middle, two) in paths:
            paths.add((one, two))
    return paths


def own_components(graph, names):
    links = {graph[name][1:3] for name in names}
    paths = reached(links)
    parts = set()
    for state in graph.states:
        if (state, state) in paths:
            parts.add(tuple(other for other in graph.states if (state, other) in paths and (other, state) in paths))
    return tuple(sorted(parts))


def own_ways(graph, state):
    """The way to each state, found layer by layer."""
    ways, layer = {state: ()}, {state: ()}
    while layer:
        more = {}
        for name, source, target, _ in graph:
            if source in layer and target not in ways:
                told = layer[source] + (name,)
                more[target] = min(more.get(target, told), told)
        ways.update(more)
        layer = more
    return ways


def own_cycles(graph):
    found = set()

    def go_on(names, states):
        for name, source, target, _ in graph:
            if source == states[-1] and target == states[0]:
                found.add(names + (name,))
            elif source == states[-1] and target not in states and target > states[0]:
                go_on(names + (name,), states + (target,))
    for state in graph.states:
        go_on((), (state,))
    return sorted(found, key=lambda one: (len(one), one))


def own_effect(graph, amounts, part):
    sums = dict.fromkeys(graph.counters, 0)
    for name, source, target, change in graph:
        if source in part and target in part:
            for counter, amount in change:
                sums[counter] += amounts.get(name, 0) * amount
    return sums


def random_circulation(source, graph, greatest):
    amounts = {}
    for cycle in source.sample(list(cycles(graph)), min(3, len(list(cycles(graph))))):
        many = source.randint(1, greatest)
        for name in cycle:
            amounts[name] = amounts.get(name, 0) + many
    return amounts


class TestComponents(unittest.TestCase):
    def test_examples(self):
        self.assertEqual([components(SHUTTLE, ("a", "b")), is_returning(SHUTTLE, ("a", "go")),
                          way(SHUTTLE, "q", "p"), list(cycles(SHUTTLE))],
                         [(("p",), ("q",)), False, ("back",), [("a",), ("b",), ("go", "back")]])

    def test_small_ones(self):
        self.assertEqual(components(SHUTTLE, ()), ())
        self.assertEqual(components(SHUTTLE, ("go",)), ())
        self.assertEqual(components(SHUTTLE, ("go", "back", "go")), (("p", "q"),))
        self.assertIs(is_returning(SHUTTLE, ()), True)
        self.assertIs(is_returning(SHUTTLE, ("a", "b", "a")), True)
        self.assertIs(is_returning(SHUTTLE, ("back",)), False)
        self.assertIs(is_returning(SHUTTLE, SHUTTLE.names), True)

    def test_against_a_reckoning(self):
        source = random.Random(5)
        for seed in range(150):
            graph = random_graph(seed)
            names = tuple(source.choice(graph.names) for _ in range(source.randint(0, 12)))
            parts = own_components(graph, names)
            self.assertEqual(components(graph, names), parts)
            lies = [any(graph[name][1] in part and graph[name][2] in part for part in parts) for name in names]
            self.assertIs(is_returning(graph, names), all(lies))

    def test_errors(self):
        for call in (components, is_returning):
            for value in odd_values():
                if not isinstance(value, Graph):
                    with self.assertRaises(InvalidGraph):
                        call(value, None)
            for value in odd_tuples():
                with self.assertRaises(InvalidOperation):
                    call(SHUTTLE, value)
            for value in odd_names(*SHUTTLE.names):
                with self.assertRaises(UnknownName) as caught:
                    call(SHUTTLE, ("a", value, "nothing"))
                self.assertIs(caught.exception.name, value)


class TestWays(unittest.TestCase):
    def test_several_are_shortest(self):
        self.assertEqual(way(TWICE, "p", "q"), ("a",))
        self.assertEqual(way(TWICE, "q", "p"), ("c", "z"))
        self.assertEqual(way(TWICE, "p", "r"), ("aa",))
        self.assertEqual(way(TWICE.without("aa"), "p", "r"), ("a", "c"))

    def test_the_first_name_decides(self):
        graph = Graph(("x",), ("b", "p", "q", ()), ("a", "q", "s", ()), ("c", "p", "r", ()), ("aa", "r", "s", ()),
                      ("z", "s", "p", ()))
        self.assertEqual(way(graph, "p", "s"), ("b", "a"))

    def test_to_itself(self):
        for graph in (SHUTTLE, EMPTY, TWICE):
            for state in graph.states:
                self.assertEqual(way(graph, state, state), ())

    def test_against_a_reckoning(self):
        for seed in range(100):
            graph = random_graph(seed)
            for state in graph.states:
                ways = own_ways(graph, state)
                for other in graph.states:
                    self.assertEqual(way(graph, state, other), ways[other])

    def test_errors(self):
        for value in odd_values():
            if not isinstance(value, Graph):
                with self.assertRaises(InvalidGraph):
                    way(value, None, None)
        for value in odd_names("p", "q"):
            for arguments in [(value, "nothing"), ("p", value)]:
                with self.assertRaises(UnknownName) as caught:
                    way(SHUTTLE, *arguments)
                self.assertIs(caught.exception.name, value)


class TestCirculations(unittest.TestCase):
    def test_circulations(self):
        for amounts in [{}, {"a": 0}, {"a": 7}, {"go": 2, "back": 2}, {"back": 10 ** 999, "a": 1, "go": 10 ** 999}]:
            self.assertIs(is_circulation(SHUTTLE, amounts), True)
        for amounts in [{"go": 1}, {"go": 1, "back": 2}, {"go": 10 ** 999, "back": 10 ** 999 - 1}]:
            self.assertIs(is_circulation(SHUTTLE, amounts), False)
        self.assertIs(is_circulation(EMPTY, {}), True)

    def test_one_number_otherwise(self):
        source = random.Random(6)
        for seed in range(80):
            graph = random_graph(seed)
            amounts = random_circulation(source, graph, 10 ** 30)
            self.assertIs(is_circulation(graph, amounts), True)
            for name, begin, end, _ in graph:
                more = {**amounts, name: amounts.get(name, 0) + 1}
                self.assertIs(is_circulation(graph, more), begin == end)

    def test_values_of_every_kind(self):
        for value in odd_values():
            self.assertIs(is_circulation(SHUTTLE, value), value in ({}, {"a": 1}))
        for value in odd_numbers():
            self.assertIs(is_circulation(SHUTTLE, {"a": value}), False)
        for value in [{"zz": 0}, {"x": 0}, {1: 1}, {None: 0}, {("a",): 1}, {"p": 0}, [("a", 1)], (("a", 1),)]:
            self.assertIs(is_circulation(SHUTTLE, value), False)
        for value in odd_values():
            if not isinstance(value, Graph):
                with self.assertRaises(InvalidGraph):
                    is_circulation(value, {})

    def test_full_circulations(self):
        for graph in [SHUTTLE, DOUBLE, PUMP, TWICE, EMPTY] + [random_graph(seed) for seed in range(60)]:
            amounts = full_circulation(graph)
            self.assertEqual(tuple(amounts), graph.names)
            self.assertTrue(all(many >= 1 for many in amounts.values()))
            for state in graph.states:
                self.assertEqual(sum(amounts[name] for name in graph.leaving(state)),
                                 sum(amounts[name] for name in graph.entering(state)))
        for value in odd_values():
            if not isinstance(value, Graph):
                with self.assertRaises(InvalidGraph):
                    full_circulation(value)


class TestEffects(unittest.TestCase):
    def test_examples(self):
        self.assertEqual([effect(DOUBLE, {"a": 3, "b": 2}), effect(DOUBLE, {"a": 3, "b": 2}, part=("q",))],
                         [{"x": 1, "y": 1, "z": 0}, {"x": 4, "y": -2, "z": 0}])

    def test_against_a_reckoning(self):
        source = random.Random(8)
        for seed in range(80):
            graph = random_graph(seed)
            amounts = {name: source.choice((0, 1, 10 ** 40)) for name in source.sample(graph.names, len(graph) // 2)}
            part = tuple(sorted(source.sample(graph.states, source.randint(1, len(graph.states)))))
            self.assertEqual(effect(graph, amounts, part=part), own_effect(graph, amounts, part))
            self.assertEqual(effect(graph, amounts), own_effect(graph, amounts, graph.states))
            self.assertEqual(effect(graph, amounts, part=None), effect(graph, amounts, part=graph.states))
            self.assertEqual(tuple(effect(graph, amounts)), graph.counters)

    def test_errors(self):
        for value in odd_values():
            if not isinstance(value, Graph):
                with self.assertRaises(InvalidGraph):
                    effect(value, None, part=5)
            if value not in ({}, {"a": 1}):
                with self.assertRaises(InvalidOperation):
                    effect(SHUTTLE, value)
            if value is not None:
                with self.assertRaises(InvalidOperation):
                    effect(SHUTTLE, {}, part=value)
        for part in [("q", "p"), ("p", "p"), ("r",), ("p", "r"), ["p"], "p", (), {"p": 1}, (["p"],), ("p", 1)]:
            with self.assertRaises(InvalidOperation):
                effect(SHUTTLE, {"a": 1}, part=part)
        for value in odd_numbers():
            with self.assertRaises(InvalidOperation):
                effect(SHUTTLE, {"a": value})


class TestCycles(unittest.TestCase):
    def test_against_a_reckoning(self):
        for graph in [SHUTTLE, TWICE, EMPTY] + [random_graph(seed) for seed in range(100)]:
            self.assertEqual(list(cycles(graph)), own_cycles(graph))

    def test_many_cycles(self):
        states = "abcdefgh"
        ring = [(one + states[at], states[at - 1], states[at], ()) for at in range(8) for one in "vw"]
        found = list(cycles(Graph(("x",), *ring)))
        self.assertEqual(len(found), 256)
        self.assertEqual(found, sorted(found))
        self.assertTrue(all(cycle[0] in ("vb", "wb") for cycle in found))

    def test_yields_one_by_one_and_raises_late(self):
        told = cycles(TWICE)
        self.assertEqual(next(told), ("e",))
        self.assertEqual(next(told), ("aa", "z"))
        for value in (None, "a", 5, ()):
            late = cycles(value)
            with self.assertRaises(InvalidGraph):
                next(late)

    def test_packed(self):
        self.assertEqual(packed(DOUBLE, {"go": 2, "back": 2}), ((("go", "back"), 2),))
        self.assertEqual(packed(DOUBLE, {}), ())
        self.assertEqual(packed(DOUBLE, {"a": 0}), ())
        source = random.Random(9)
        for seed in range(100):
            graph = random_graph(seed)
            amounts = random_circulation(source, graph, source.choice((1, 5, 10 ** 900)))
            pairs = packed(graph, amounts)
            every = own_cycles(graph)
            self.assertIsInstance(pairs, tuple)
            self.assertEqual(len({cycle for cycle, _ in pairs}), len(pairs))
            self.assertTrue(all(cycle in every and many >= 1 for cycle, many in pairs))
            for name in graph.names:
                self.assertEqual(sum(many for cycle, many in pairs if name in cycle), amounts.get(name, 0))
            self.assertIs(is_packed(graph, amounts, pairs), True)
            self.assertIs(is_packed(graph, amounts, tuple(reversed(pairs))), True)
            for at, (cycle, many) in enumerate(pairs):
                for wrong in [((cycle, many + 1),), ((cycle, 0),), (), ((cycle, many),) * 2, ([cycle, many],)]:
                    self.assertIs(is_packed(graph, amounts, pairs[:at] + wrong + pairs[at + 1:]), False)
                if many > 1:
                    split = ((cycle, many - 1), (cycle, 1))
                    self.assertIs(is_packed(graph, amounts, pairs[:at] + split + pairs[at + 1:]), False)

    def test_is_packed_at_others(self):
        amounts = {"aa": 1, "a": 2, "c": 2, "z": 3}
        right = ((("a", "c", "z"), 2), (("aa", "z"), 1))
        self.assertIs(is_packed(TWICE, amounts, right), True)
        for value in [list(right), right[:1], ((("c", "z", "a"), 2), right[1]), ((("a", "c", "z"), True), right[1]),
                      ((["a", "c", "z"], 2), right[1]), ((("a", "c", "z", "aa", "z"), 1), (("a", "c", "z"), 1)),
                      ((("a", "c", "z"), 2), (("aa", "z"), 1), (("e",), 0)), ((("a", "d", "z"), 2), right[1]),
                      ((("a", "c", "z"), 2, 0), right[1]), ((("a", "z"), 2), right[1]), right + (((), 1),),
                      right + (((["a"],), 1),), ((("a", "c", "z"), 2), None), ((("a", "c", "nosuch"), 2), right[1])]:
            self.assertIs(is_packed(TWICE, amounts, value), False, value)
        for value in odd_values():
            self.assertIs(is_packed(TWICE, amounts, value), False, value)
            self.assertIs(is_packed(TWICE, {}, value), value == (), value)
        for many in (True, None, "1", (1,), [1], 0, -1, 1.0):
            self.assertIs(is_packed(TWICE, {"aa": 1, "z": 1}, ((("aa", "z"), many),)), False)
        self.assertIs(is_packed(TWICE, {"aa": 1, "z": 1}, ((("aa", "z"), 1),)), True)
        once = {"a": 1, "go": 1, "back": 1}
        self.assertIs(is_packed(SHUTTLE, once, ((("a", "go", "back"), 1),)), False)
        self.assertIs(is_packed(SHUTTLE, once, ((("go", "back"), 1), (("a",), 1))), True)
        both = {"a": 1, "c": 1, "b": 1, "d": 1, "z": 2}
        self.assertIs(is_packed(TWICE, both, ((("a", "d", "z"), 1), (("b", "c", "z"), 1))), True)
        self.assertIs(is_packed(TWICE, both, ((("a", "c", "z"), 1), (("b", "d", "z"), 1))), True)
        self.assertIs(is_packed(TWICE, both, ((("a", "c", "z"), 1), (("b", "c", "z"), 1))), False)

    def test_errors_of_packed(self):
        for call in (packed, lambda graph, amounts: is_packed(graph, amounts, ())):
            for value in odd_values():
                if not isinstance(value, Graph):
                    with self.assertRaises(InvalidGraph):
                        call(value, None)
                if value not in ({}, {"a": 1}):
                    with self.assertRaises(InvalidOperation):
                        call(SHUTTLE, value)
            for amounts in [{"go": 1}, {"go": 2, "back": 1}, {"zz": 0}, {"a": -1}, {"a": True}]:
                with self.assertRaises(InvalidOperation):
                    call(SHUTTLE, amounts)

    def test_arguments_stay(self):
        amounts = {"go": 2, "back": 2, "a": 0}
        packed(SHUTTLE, amounts)
        is_packed(SHUTTLE, amounts, ())
        effect(SHUTTLE, amounts)
        self.assertEqual(list(amounts.items()), [("go", 2), ("back", 2), ("a", 0)])


if __name__ == "__main__":
    unittest.main()
