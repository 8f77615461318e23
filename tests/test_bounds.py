"""Points 13.1 and 13.2, stage "written bounds"."""

import unittest

from loopgrowth.bounds.bounds import bound, bounds, level_bounds
from loopgrowth.bounds.polynomials import Polynomial
from loopgrowth.errors import InvalidGraph, InvalidOperation, UnknownName
from loopgrowth.graphs.graphs import Graph
from loopgrowth.levels.growths import growths
from loopgrowth.levels.levels import exponents, levels_paper
from samples import (CUBE, DOUBLE, EMPTY, FOURTH, PUMP, SHUTTLE, SIXTH, SQUARE, graph_of, loop_graph, moving_graph,
                     odd_names, odd_values, random_graph, scaled_papers)
from sums import greatest_numbers

# Great changes at high levels: its bounds have long coefficients.
HEAVY = graph_of("u v w x y", "ta b b: v+9 x+1 y-1", "tb b f: u+3 w+5 x-1 y-5", "tc c c: u+9 v+1 w-1",
                 "td d d: v-6 w+1 y-5", "te e e: v+1 w-1", "tf f f: v-1 w+1", "tg a b: u+6 v-1 w-3 x+9 y+3",
                 "th e f:", "ti a c: v+9 x+1 y+7", "tj f e: u-1", "tk d c: v+4 w-7", "tl c d: v+9 w-6", "tm e a: x-8",
                 "tn c e: v+7 w-1")


def many_graphs():
    return [SHUTTLE, DOUBLE, PUMP, EMPTY, SQUARE, CUBE, FOURTH, SIXTH, HEAVY] + \
        [loop_graph(seed) for seed in range(100)] + [moving_graph(seed) for seed in range(60)] + \
        [random_graph(seed) for seed in range(20)]


def added(one, two):
    told = [0] * max(len(one), len(two))
    for coefficients in (one, two):
        for at, number in enumerate(coefficients):
            told[at] += number
    return told


def multiplied(one, two):
    told = [0] * (len(one) + len(two))
    for at, first in enumerate(one):
        for to, second in enumerate(two):
            told[at + to] += first * second
    return told


def bounds_by(graph, paper):
    """The level bounds by the formula of 13.2, as dicts from exponents to lists of coefficients."""
    told, found = exponents(graph), {}
    c = max([abs(amount) for row in graph for _, amount in row[3]], default=0)
    for level in sorted(set(told.values())):
        weights, offsets, _ = paper[level - 1]
        spread = max(offsets.values()) - min(offsets.values())
        greatest = {counter: max([weight for (other, _), weight in weights.items() if other == counter], default=0)
                    for counter in graph.counters}
        whole = sum(greatest.values())
        total = [spread, whole]
        for j in sorted({told[name] for name in graph.names if name in told and told[name] < level}):
            factor = [spread + c * whole]
            for counter in graph.counters:
                if counter in told and told[counter] <= level - j:
                    factor = added(factor, multiplied([greatest[counter]], found[told[counter]]))
            total = added(total, multiplied(found[j], factor))
        found[level] = total
    return found


def stripped(coefficients):
    told = list(coefficients)
    while told and told[-1] == 0:
        told.pop()
    return tuple(told)


class TestBounds(unittest.TestCase):
    def test_examples(self):
        self.assertEqual([bound(SHUTTLE, "a").degree, bound(DOUBLE, "a"), list(bounds(PUMP)),
                          list(level_bounds(SHUTTLE, levels_paper(SHUTTLE)))], [2, None, ["back", "go", "z"], [1, 2]])

    def test_the_formula(self):
        for graph in many_graphs():
            paper = levels_paper(graph)
            for other in [paper] + scaled_papers(paper):
                told = level_bounds(graph, other)
                self.assertEqual({level: told[level].coefficients for level in told},
                                 {level: stripped(one) for level, one in bounds_by(graph, other).items()})
                self.assertEqual(list(told), sorted(set(exponents(graph).values())))
                self.assertTrue(all(isinstance(one, Polynomial) for one in told.values()))

    def test_a_paper_that_is_written_here(self):
        every = ("p", "q")
        first = ({("x", every): 1, ("y", every): 1, ("z", every): 2}, {"p": 1, "q": 0},
                 {"a": 1, "b": 1, "back": 0, "go": 0})
        rows = {("x", ("p",)): 2, ("y", ("p",)): 1, ("x", ("q",)): 1, ("y", ("q",)): 2, ("z", ("p",)): 1,
                ("z", ("q",)): 1}
        second = (rows, {"p": 0, "q": 0}, {"a": 0, "b": 0})
        third = ({}, {"p": 0, "q": 0}, {})
        told = level_bounds(SHUTTLE, (first, second, third))
        # G(1) = 4 n + 1, and G(2) = 5 n + G(1) * (5 + 2 G(1) + 2 G(1) + G(1)).
        one = Polynomial(1, 4)
        self.assertEqual(told, {1: one, 2: Polynomial(0, 5) + one * (one * 5 + 5)})

    def test_degrees_and_things(self):
        for graph in many_graphs():
            told, powers = bounds(graph), growths(graph)
            self.assertEqual(list(told), [thing for thing in powers if powers[thing][0] == "power"])
            self.assertEqual(list(told), sorted(told))
            for thing in powers:
                one = bound(graph, thing)
                if thing in told:
                    self.assertIsInstance(one, Polynomial)
                    self.assertIsInstance(told[thing], Polynomial)
                    self.assertEqual((one.degree, told[thing].degree), (powers[thing][1],) * 2)
                    self.assertLess(max(one.coefficients + told[thing].coefficients), 10 ** 4000)
                else:
                    self.assertIsNone(one)

    def test_no_run_exceeds_them(self):
        met = 0
        graphs = [SHUTTLE, SQUARE, CUBE, PUMP, DOUBLE, FOURTH] + [loop_graph(seed, 6) for seed in range(120)] + \
            [moving_graph(seed) for seed in range(20)]
        for graph in graphs:
            told = bounds(graph)
            without = tuple(counter for counter, one in growths(graph).items()
                            if one[0] == "free" and counter in graph.counters)
            levelled, found = level_bounds(graph, levels_paper(graph)), exponents(graph)
            singles = {thing: bound(graph, thing) for thing in told}
            for size in (0, 1, 2, 4, 7):
                numbers = greatest_numbers(graph, size, without, 4000)
                if numbers is None:
                    break
                for thing in told:
                    self.assertLessEqual(numbers[thing], told[thing](size))
                    self.assertLessEqual(numbers[thing], singles[thing](size))
                    met += 1
                for level in levelled:
                    together = [numbers[name] for name in graph.names if found.get(name) == level]
                    self.assertLessEqual(max(together, default=0), levelled[level](size))
        self.assertGreater(met, 2000)

    def test_papers_and_values_of_every_kind(self):
        paper = levels_paper(SHUTTLE)
        for value in odd_values() + [paper[:-1], paper + paper[-1:], list(paper), levels_paper(DOUBLE), (paper,)]:
            with self.assertRaises(InvalidOperation):
                level_bounds(SHUTTLE, value)

    def test_errors_in_order(self):
        for value in odd_values():
            if not isinstance(value, Graph):
                for call in (bounds, lambda one: bound(one, None), lambda one: level_bounds(one, None)):
                    with self.assertRaises(InvalidGraph):
                        call(value)
        for value in odd_names(*SHUTTLE.names, *SHUTTLE.counters):
            with self.assertRaises(UnknownName) as caught:
                bound(SHUTTLE, value)
            self.assertIs(caught.exception.name, value)

    def test_nothing_gives_access(self):
        paper, told = levels_paper(SHUTTLE), bounds(SHUTTLE)
        bounds(SHUTTLE).clear()
        level_bounds(SHUTTLE, paper).clear()
        self.assertEqual((bounds(SHUTTLE), paper), (told, levels_paper(SHUTTLE)))


if __name__ == "__main__":
    unittest.main()
