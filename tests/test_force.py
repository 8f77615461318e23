"""Points 15.1 and 15.2, stage "by force", and 0.20 from above."""

import unittest

from loopgrowth.bounds.bounds import bound
from loopgrowth.bounds.force import MAX_MET, greatest, greatest_run, longest, met
from loopgrowth.errors import InvalidGraph, InvalidNumber, InvalidOperation, TooMany, UnknownName
from loopgrowth.graphs.graphs import Graph
from loopgrowth.levels.growths import growths
from samples import (CUBE, DOUBLE, EMPTY, PUMP, SHUTTLE, SQUARE, graph_of, loop_graph, moving_graph, odd_names,
                     odd_numbers, odd_values)
from sums import configurations, greatest_numbers, numbers_in_order, steps_from

# Just size + 1 configurations are met.
LOOP = Graph(("x",), ("a", "p", "p", (("x", -1),)))
# Rounds without effect, beside transitions that have a greatest number.
ROUNDS = graph_of("x y", "a p p: x-1 y+1", "b p p: x+1 y-1", "c p q: y-1", "d q p:", "e q q: x-2")
# Free counters: without them there are few configurations.
FREE = graph_of("u v x", "a p p: u+1 x-1", "b p q: u-3", "c q p: v+2", "d q q: v-1 x-1", "e q q: u+1")


def steps_of(graph, size, without):
    """The number of steps of the longest run, or None, by a trial of the test's own."""
    known = configurations(graph, size, without)
    numbers = numbers_in_order(known)
    far = dict.fromkeys(known, 0)
    for here in sorted(known, key=numbers.get):
        for _, there in known[here]:
            if numbers[here] == numbers[there]:
                return None
            far[here] = max(far[here], 1 + far[there])
    return max(far.values())


def fewest_steps(graph, thing, size, without, most):
    """How many steps a run needs at least that reaches the greatest number: all runs, step by step."""
    first = tuple(None if counter in without else size for counter in graph.counters)
    layer, known, steps = {(state, first, 0) for state in graph.states}, set(), 0
    while True:
        for state, loads, count in layer:
            if (count if thing in graph else loads[graph.counters.index(thing)]) == most:
                return steps
        known |= layer
        layer = {(there[0], there[1], min(most, count + (name == thing))) for state, loads, count in layer
                 for name, there in steps_from(graph, (state, loads), without)} - known
        steps += 1


def small_cases():
    for graph in (SHUTTLE, SQUARE, LOOP, ROUNDS, EMPTY, DOUBLE, CUBE):
        for size in range(4):
            yield graph, size, ()
    for graph, without in ((SHUTTLE, ("z",)), (SHUTTLE, ("x", "y")), (SHUTTLE, ("z", "x", "z")), (PUMP, ("u",)),
                           (SHUTTLE, ("x", "y", "z")), (FREE, ("v", "u")), (FREE, ("u", "v", "x")), (EMPTY, ("x",)),
                           (ROUNDS, ("x",)), (PUMP, ("u", "z")), (DOUBLE, ("x",))):
        for size in range(4):
            yield graph, size, without
    for seed in range(40):
        graph = loop_graph(seed, most=7)
        told = growths(graph)
        free = tuple(counter for counter in graph.counters if told[counter][0] == "free")
        for size in range(3):
            yield graph, size, free
            yield graph, size, graph.counters[1:]
    for seed in range(12):
        for size in range(3):
            yield moving_graph(seed), size, ()


class TestForce(unittest.TestCase):
    def test_examples(self):
        self.assertEqual([met(SHUTTLE, 1), [greatest(SHUTTLE, name, 1) for name in SHUTTLE.names], longest(SHUTTLE, 1),
                          greatest(SHUTTLE, "x", 1)], [11, [3, 4, 1, 2], 10, 2])
        self.assertEqual([greatest_run(SHUTTLE, "back", 1), greatest(PUMP, "go", 2, without=("u",)),
                          greatest(PUMP, "b", 2, without=("u",)), greatest_run(PUMP, "a", 0, without=("u",))],
                         [("q", ("back",)), 2, None, None])

    def test_against_all_configurations(self):
        cases = 0
        for graph, size, without in small_cases():
            most = greatest_numbers(graph, size, without, limit=MAX_MET)
            if most is None:
                for call in (met, longest):
                    with self.assertRaises(TooMany):
                        call(graph, size, without=without)
                continue
            cases += 1
            self.assertEqual(met(graph, size, without=without), len(configurations(graph, size, without)))
            self.assertEqual(longest(graph, size, without=without), steps_of(graph, size, without))
            for thing in graph.counters + graph.names:
                if thing in without:
                    continue
                told = greatest(graph, thing, size, without=without)
                self.assertEqual(told, most[thing], (str(graph), thing, size, without))
                self.assertIn(type(told), (int, type(None)))
        self.assertGreater(cases, 150)

    def test_runs_are_the_shortest_ones(self):
        for graph, size, without in small_cases():
            most = greatest_numbers(graph, size, without, limit=400)
            for thing in most or {}:
                told = greatest_run(graph, thing, size, without=without)
                if most[thing] is None:
                    self.assertIsNone(told)
                    continue
                state, names = told
                self.assertTrue(type(told) is tuple and type(names) is tuple and state in graph.states)
                self.assertEqual(self.walked(graph, thing, size, without, told), most[thing])
                self.assertEqual(len(names), fewest_steps(graph, thing, size, without, most[thing]))

    def walked(self, graph, thing, size, without, run):
        """How often a run takes the thing, or how great it becomes; it has to be one of this size."""
        state, names = run
        loads = dict.fromkeys(graph.counters, size)
        best, count = loads.get(thing), 0
        for name in names:
            _, source, target, change = graph[name]
            self.assertEqual(source, state)
            state = target
            for counter, amount in change:
                loads[counter] += amount
            self.assertTrue(all(loads[counter] >= 0 for counter in loads if counter not in without))
            count += name == thing
            best = max(best, loads[thing]) if thing in loads else None
        return count if thing in graph else best

    def test_no_greatest_number(self):
        self.assertEqual([greatest(ROUNDS, name, 1) for name in ROUNDS.names], [None, None, 2, 3, 0])
        self.assertEqual([greatest(ROUNDS, name, 0) for name in ROUNDS.names], [0, 0, 0, 1, 0])
        self.assertEqual([longest(ROUNDS, 1), longest(ROUNDS, 0)], [None, 1])
        self.assertEqual([greatest_run(ROUNDS, "a", 1), greatest_run(ROUNDS, "c", 0)[1],
                          greatest_run(ROUNDS, "x", 1)[1], greatest_run(ROUNDS, "x", 0)[1]],
                         [None, (), ("b",), ()])

    def test_just_so_many_configurations(self):
        self.assertEqual([MAX_MET, met(LOOP, 2999), longest(LOOP, 2999), greatest(LOOP, "a", 2999),
                          greatest(LOOP, "x", 2999), greatest_run(LOOP, "a", 2999)],
                         [3000, 3000, 2999, 2999, 2999, ("p", ("a",) * 2999)])
        for size in (3000, 3001, 10 ** 999):
            for call in (lambda: met(LOOP, size), lambda: longest(LOOP, size), lambda: greatest(LOOP, "a", size),
                         lambda: greatest(LOOP, "x", size), lambda: greatest_run(LOOP, "a", size)):
                with self.assertRaises(TooMany) as caught:
                    call()
                self.assertEqual(caught.exception.limit, 3000)
        two = graph_of("x y", "a p p: x-1", "b p p: y-1")
        self.assertEqual([met(two, 53), met(two, 2999, without=("y",))], [2916, 3000])
        # The transitions of rounds have no greatest number, and neither do the counters of PUMP: too many all the same.
        for graph, thing, size in ((two, "a", 54), (ROUNDS, "a", 200), (PUMP, "u", 1), (PUMP, "a", 1), (PUMP, "go", 0)):
            for call in (greatest, greatest_run):
                with self.assertRaises(TooMany) as caught:
                    call(graph, thing, size)
                self.assertEqual(caught.exception.limit, 3000)

    def test_great_values_where_few_are_met(self):
        self.assertEqual([met(PUMP, 10 ** 900, without=("u", "z")), greatest(PUMP, "a", 10 ** 900, without=("u", "z"))],
                         [2, None])
        slow = graph_of("x", "a p p: x-9")
        self.assertEqual([met(slow, 26990), greatest(slow, "a", 26990)], [2999, 2998])

    def test_bounds_are_true(self):
        for seed in range(30):
            graph = moving_graph(seed)
            for size in range(4):
                most = greatest_numbers(graph, size, limit=2000)
                for thing in most or {}:
                    told = bound(graph, thing)
                    if told is not None:
                        self.assertLessEqual(greatest(graph, thing, size), told(size))

    def test_the_first_error_that_applies(self):
        calls = [lambda graph, size, without: met(graph, size, without=without),
                 lambda graph, size, without: longest(graph, size, without=without),
                 lambda graph, size, without: greatest(graph, "x", size, without=without),
                 lambda graph, size, without: greatest_run(graph, "x", size, without=without)]
        for call in calls:
            for value in odd_values():
                if not isinstance(value, Graph):
                    with self.assertRaises(InvalidGraph):
                        call(value, -1, None)
            for value in odd_numbers():
                with self.assertRaises(InvalidNumber) as caught:
                    call(SHUTTLE, value, None)
                self.assertIs(caught.exception.value, value)
            for value in odd_values():
                if not isinstance(value, tuple):
                    with self.assertRaises(InvalidOperation):
                        call(SHUTTLE, 10 ** 9, value)
            for value in odd_names("x", "y", "z"):
                with self.assertRaises(UnknownName) as caught:
                    call(SHUTTLE, 10 ** 9, ("x", value, "nosuch"))
                self.assertIs(caught.exception.name, value)
        for call in (greatest, greatest_run):
            for value in odd_names(*SHUTTLE.names, *SHUTTLE.counters):
                with self.assertRaises(UnknownName) as caught:
                    call(SHUTTLE, value, -1, without=None)
                self.assertIs(caught.exception.name, value)
            with self.assertRaises(InvalidOperation):
                call(SHUTTLE, "x", 10 ** 9, without=("y", "x"))
            with self.assertRaises(UnknownName):
                call(SHUTTLE, "x", 10 ** 9, without=("x", "a"))
            with self.assertRaises(TooMany):
                call(SHUTTLE, "a", 10 ** 9, without=("x",))
        with self.assertRaises(InvalidGraph):
            greatest(None, "nosuch", -1)


if __name__ == "__main__":
    unittest.main()
