"""Points 10.1 to 10.3, stage "beyond every power"."""

import unittest
from itertools import combinations, product

from loopgrowth.errors import InvalidGraph, InvalidOperation
from loopgrowth.graphs.graphs import Graph
from loopgrowth.graphs.parts import components, cycles, way
from loopgrowth.levels.beyond import beyond, doubling, is_doubling, joined_doublings
from loopgrowth.levels.levels import exponents, rest
from loopgrowth.levels.ranks import free
from loopgrowth.walks.recipes import Recipe, circuit
from samples import (BESIDE, DOUBLE, EMPTY, FOURTH, PUMP, SHUTTLE, SIXTH, changed_values, graph_of, loop_graph,
                     moving_graph, odd_values, random_graph)
from sums import is_doubling_by

# Two doublings that have nothing in common, and a transition that can be taken without end.
PAIR = graph_of("v w x y z", "a p p: x-1 y+1", "b q q: x+2 y-1", "c p p: v-1 w+2", "d q q: v+1 w-1", "e q q:",
                "go p q: z-1", "back q p:")


def doubling_graphs():
    """Graphs with something that is beyond."""
    told = [DOUBLE, PAIR, BESIDE]
    for seed in range(4000):
        if len(told) == 40:
            return told
        graph = moving_graph(seed)
        if rest(graph)[1]:
            told.append(graph)
    return told


def many_graphs():
    return doubling_graphs() + [SHUTTLE, PUMP, EMPTY, FOURTH, SIXTH] + [loop_graph(seed) for seed in range(60)] + \
        [random_graph(seed, 2) for seed in range(20)] + [moving_graph(seed) for seed in range(60)]


def times_around(graph, amounts):
    """A function from m to the recipe that goes m times around each component, and back to its start."""
    names = tuple(name for name in amounts if amounts[name])
    parts = components(graph, names)

    def rounds(many):
        told = Recipe(graph, start=parts[0][0])
        for part in parts:
            inside = {name: amounts[name] for name in names if graph[name][1] in part and graph[name][2] in part}
            told = told + Recipe.of(graph, way(graph, told.end, part[0]), told.end)
            told = told + circuit(graph, inside, part[0]) * many
        return told + Recipe.of(graph, way(graph, told.end, told.start), told.end)

    return rounds


def greatest_round(rounds, loads):
    """The recipe that goes around as often as the values let, or None."""
    def fits(many):
        return all(need <= loads[counter] for counter, need in rounds(many).needs.items())

    if not fits(1):
        return None
    low, high = 1, 2
    while fits(high):
        low, high = high, 2 * high
        if high > 10 ** 60:
            return None
    while high - low > 1:
        middle = (low + high) // 2
        low, high = (middle, high) if fits(middle) else (low, middle)
    return rounds(low)


class TestBeyond(unittest.TestCase):
    def test_examples(self):
        self.assertEqual([beyond(DOUBLE), beyond(SHUTTLE), doubling(PUMP),
                          is_doubling(DOUBLE, ({"a": 3, "b": 2}, ("x", "y")))],
                         [(("a", "b"), ("x", "y")), ((), ()), None, True])
        self.assertEqual([is_doubling(DOUBLE, ({"a": 3, "b": 2}, ("x",))),
                          is_doubling(DOUBLE, ({"a": 1, "b": 1}, ("x",)))], [False, False])

    def test_known_graphs(self):
        self.assertEqual(free(PAIR), {"e": 0})
        self.assertEqual(beyond(PAIR), (("a", "b", "c", "d"), ("v", "w", "x", "y")))
        self.assertEqual([(beyond(graph), doubling(graph)) for graph in (EMPTY, FOURTH, SIXTH, PUMP)],
                         [(((), ()), None)] * 4)

    def test_beyond_is_what_is_left(self):
        met = 0
        for graph in many_graphs():
            names, counters = beyond(graph)
            ranks, told = free(graph), exponents(graph)
            left = {thing for thing in graph.names + graph.counters if thing not in ranks and thing not in told}
            self.assertEqual(names, tuple(name for name in graph.names if name in left))
            self.assertEqual(counters, tuple(counter for counter in graph.counters if counter in left))
            self.assertEqual(bool(names), bool(counters))
            met += bool(names)
        self.assertGreater(met, 35)

    def test_doubling_has_all_of_it(self):
        for graph in many_graphs():
            names, counters = beyond(graph)
            told = doubling(graph)
            if not counters:
                self.assertIsNone(told)
                continue
            ranks = free(graph)
            self.assertTrue(is_doubling_by(graph, ranks, told))
            self.assertIs(is_doubling(graph, told), True)
            self.assertEqual(told[1], counters)
            self.assertEqual(list(told[0]), sorted(told[0]))
            self.assertEqual(tuple(name for name in told[0] if told[0][name] and name not in ranks), names)
            self.assertTrue(all(number < 10 ** 900 for number in told[0].values()))

    def test_what_is_beyond_grows_by_a_factor(self):
        for graph in doubling_graphs()[:10]:
            amounts, counters = doubling(graph)
            ranks, size = free(graph), 10 ** 6
            loads = {counter: 10 ** 50 if counter in ranks else size for counter in graph.counters}
            rounds, many = times_around(graph, amounts), 0
            while min(loads[counter] for counter in counters) < 20 * size:
                recipe = greatest_round(rounds, loads)
                loads = recipe.after(loads)
                many += 1
                self.assertLess(many, 2000)


class TestDoublings(unittest.TestCase):
    def test_doublings_that_the_program_did_not_make(self):
        for graph in doubling_graphs():
            amounts, counters = doubling(graph)
            great = {name: 10 ** 90 * amount for name, amount in amounts.items()}
            full = {name: amounts.get(name, 0) for name in reversed(graph.names)}
            short = {name: amount for name, amount in amounts.items() if amount}
            for value in ((great, counters), (full, counters), (short, counters)):
                self.assertIs(is_doubling(graph, value), True)
            for many in range(len(graph.counters) + 1):
                for chosen in combinations(graph.counters, many):
                    self.assertIs(is_doubling(graph, (amounts, chosen)),
                                  is_doubling_by(graph, free(graph), (amounts, chosen)))

    def test_one_thing_otherwise(self):
        right = 0
        for graph in doubling_graphs()[:12]:
            amounts, counters = doubling(graph)
            for told in ((amounts, counters), ({**dict.fromkeys(graph.names, 0), **amounts}, counters)):
                for value in changed_values(told):
                    expected = is_doubling_by(graph, free(graph), value)
                    self.assertIs(is_doubling(graph, value), expected, value)
                    right += expected
        self.assertGreater(right, 0)

    def test_small_circulations(self):
        found, checked = 0, 0
        for graph in [DOUBLE, SHUTTLE, PUMP] + doubling_graphs()[:12] + [moving_graph(seed) for seed in range(12)]:
            ways = list(cycles(graph))
            if len(ways) > 5:
                continue
            ranks, counters = free(graph), beyond(graph)[1]
            bounded = [counter for counter in graph.counters if counter not in ranks]
            every = [told for many in range(1, len(bounded) + 1) for told in combinations(bounded, many)]
            for numbers in product(range(4), repeat=len(ways)):
                amounts = {name: sum(number for number, cycle in zip(numbers, ways) if name in cycle)
                           for name in graph.names}
                for chosen in every:
                    checked += 1
                    if is_doubling_by(graph, ranks, (amounts, chosen)):
                        self.assertLessEqual(set(chosen), set(counters))
                        self.assertTrue(is_doubling(graph, (amounts, chosen)))
                        found += 1
        self.assertGreater(found, 10)
        self.assertGreater(checked, 10000)

    def test_values_of_every_kind(self):
        bad = [({}, ("x",)), ({"a": 0}, ("x",)), ({}, ()), ({"a": 3, "b": 2}, ("y", "x")),
               ({"a": 3, "b": 2}, ["x", "y"]),
               ({"a": 3, "b": 2}, ()), ({"a": 3, "b": 2}, ("x", "x", "y")), ({"a": 3, "b": 2, "c": 0}, ("x", "y")),
               ({"a": 3, "b": 2, "go": 1}, ("x", "y")), ({"a": 3, "b": 2}, ("x", "y", "z")), ({"a": 3}, ("x", "y")),
               [{"a": 3, "b": 2}, ("x", "y")], ({"a": 3, "b": 2},), ({"a": 3, "b": 2}, ("x", "y"), ()),
               ({"a": 3, "b": True}, ("x", "y")), ({"a": 3, "b": 2}, ("x", "w")), ({"a": 3, "b": 2}, (["x"],))]
        for value in odd_values() + bad + [({"a": 3, "b": 2}, one) for one in odd_values() if one != ("x", "y")] + \
                [(one, ("x", "y")) for one in odd_values()]:
            self.assertIs(is_doubling(DOUBLE, value), False, value)
            with self.assertRaises(InvalidOperation):
                joined_doublings(DOUBLE, value, doubling(DOUBLE))
            with self.assertRaises(InvalidOperation):
                joined_doublings(DOUBLE, doubling(DOUBLE), value)
        self.assertFalse(is_doubling(SHUTTLE, doubling(DOUBLE)))
        # u is free, so no doubling has it.
        self.assertFalse(is_doubling(PUMP, ({"a": 1}, ("u",))))
        self.assertTrue(is_doubling(PAIR, ({"a": 3, "b": 2, "e": 10 ** 30}, ("x", "y"))))

    def test_joined_doublings(self):
        one, two = ({"a": 3, "b": 2}, ("x", "y")), ({"c": 2, "d": 3, "e": 0}, ("v", "w"))
        self.assertEqual([is_doubling(PAIR, one), is_doubling(PAIR, two)], [True, True])
        both = joined_doublings(PAIR, one, two)
        self.assertEqual(both, ({"a": 3, "b": 2, "back": 0, "c": 2, "d": 3, "e": 0, "go": 0},
                                ("v", "w", "x", "y")))
        self.assertEqual(list(both[0]), list(PAIR.names))
        self.assertEqual((one, two), (({"a": 3, "b": 2}, ("x", "y")), ({"c": 2, "d": 3, "e": 0}, ("v", "w"))))
        for graph in doubling_graphs():
            told, ranks = doubling(graph), free(graph)
            others = [({name: 5 * amount for name, amount in told[0].items()}, told[1]), told]
            for other in others:
                joined = joined_doublings(graph, told, other)
                self.assertTrue(is_doubling_by(graph, ranks, joined))
                self.assertEqual(joined, ({name: told[0].get(name, 0) + other[0].get(name, 0) for name in graph.names},
                                          told[1]))

    def test_errors_in_order(self):
        for value in odd_values():
            if not isinstance(value, Graph):
                for call in (beyond, doubling, lambda one: is_doubling(one, None),
                             lambda one: joined_doublings(one, None, None)):
                    with self.assertRaises(InvalidGraph):
                        call(value)

    def test_nothing_gives_access(self):
        told = doubling(DOUBLE)
        told[0].clear()
        self.assertTrue(is_doubling(DOUBLE, doubling(DOUBLE)))


if __name__ == "__main__":
    unittest.main()
