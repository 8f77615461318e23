"""Points 0.11, 0.20, 11.1 to 11.3, and what 16.1 and 16.3 say of growths; stage "growths"."""

import math
import random
import unittest
from itertools import product

from loopgrowth.errors import InvalidGraph, InvalidOperation, UnknownName
from loopgrowth.graphs.graphs import Graph
from loopgrowth.levels.beyond import beyond
from loopgrowth.levels.growths import (compared, greatest_growth, growth, growth_paper, growths, growths_by, is_growth,
                                       is_growth_paper, steps_growth)
from loopgrowth.levels.levels import exponents, levels_paper
from loopgrowth.levels.ranks import free, ranks_paper
from samples import (CUBE, DOUBLE, EMPTY, FOURTH, PUMP, SHUTTLE, SIXTH, SQUARE, changed_values, graph_of, loop_graph,
                     moving_graph, odd_names, odd_values, random_graph, scaled_papers)
from sums import greatest_numbers, growths_by_papers

LADDER = graph_of("u v w x y", "a p p: u+1", "b p p: u-1 v+1", "c q q: u-1 v+1", "d r r: v-1 w+1", "e s s: w-1 x+1",
                  "go p q: y-1", "on q r: y-1", "up r s: y-1", "back s p:")
SOME = [("power", 0), ("power", 1), ("power", 2), ("power", 10 ** 999), ("beyond",), ("free", 0), ("free", 1),
        ("free", 10 ** 999)]


def many_graphs():
    return [SHUTTLE, DOUBLE, PUMP, EMPTY, LADDER, SQUARE, CUBE, FOURTH, SIXTH] + \
        [loop_graph(seed) for seed in range(100)] + [moving_graph(seed) for seed in range(60)] + \
        [random_graph(seed, 2) for seed in range(20)]


def order(told):
    """The place of a growth in the order."""
    return (("power", "beyond", "free").index(told[0]), told[1] if told[0] == "power" else 0)


def odd_growths():
    return [value for value in odd_values() if value not in SOME] + [
        ("power",), ("power", -1), ("power", True), ("power", None), ("power", "1"), ("power", 1, 1), ("beyond", 0),
        ("beyond", None), ("free",), ("free", -1), ("free", False), ("free", (1,)), ["power", 1], ("Power", 1),
        ("linear",), (1, "power"), "beyond", ("beyond",) * 2, (("beyond",),), (["power"], 1), {"power": 1}]


class TestGrowths(unittest.TestCase):
    def test_examples(self):
        self.assertEqual([growth(SHUTTLE, "a"), growth(PUMP, "b"), growth(PUMP, "z"), steps_growth(DOUBLE),
                          growths(SHUTTLE)["x"]], [("power", 2), ("free", 1), ("power", 1), ("beyond",), ("power", 1)])
        self.assertEqual([list(growths(PUMP)), growths_by(PUMP, growth_paper(PUMP)) == growths(PUMP)],
                         [["a", "b", "back", "go", "u", "z"], True])

    def test_known_growths(self):
        self.assertEqual([growth(SQUARE, "a"), growth(CUBE, "c"), growth(CUBE, "w"), growth(FOURTH, "d"),
                          growth(SIXTH, "e"), growth(SIXTH, "u"), growth(SIXTH, "x")],
                         [("power", 2), ("power", 3), ("power", 2), ("power", 4), ("power", 6), ("power", 4),
                          ("power", 1)])
        self.assertEqual([growth(DOUBLE, thing) for thing in ("a", "b", "x", "y", "z", "go")],
                         [("beyond",)] * 4 + [("power", 1)] * 2)
        self.assertEqual([growth(LADDER, thing) for thing in ("a", "c", "d", "e", "u", "v", "w", "x", "y", "up")],
                         [("free", 0), ("free", 1), ("free", 1), ("free", 2), ("free", 0), ("free", 0), ("free", 1),
                          ("free", 2), ("power", 1), ("power", 1)])
        # A counter that only falls is never more than n, and one that no transition changes is always n.
        still = graph_of("x y", "a p p: x-1")
        self.assertEqual(growths(still), {"a": ("power", 1), "x": ("power", 1), "y": ("power", 1)})
        self.assertEqual(growths(EMPTY), {"x": ("power", 1)})
        self.assertEqual(growths(graph_of("x", "a p p:")), {"a": ("free", 0), "x": ("power", 1)})

    def test_each_thing_has_one_growth(self):
        for graph in many_graphs():
            told, ranks, found, left = growths(graph), free(graph), exponents(graph), beyond(graph)
            self.assertEqual(list(told), sorted(graph.names + graph.counters))
            for thing in told:
                self.assertEqual((thing in ranks) + (thing in found) + (thing in left[0] + left[1]), 1)
                if thing in ranks:
                    self.assertEqual(told[thing], ("free", ranks[thing]))
                else:
                    self.assertEqual(told[thing], ("power", found[thing]) if thing in found else ("beyond",))
                self.assertEqual(growth(graph, thing), told[thing])
                self.assertIs(is_growth(told[thing]), True)

    def test_against_greatest_numbers(self):
        met = dict.fromkeys(("power", "free", "beyond"), 0)
        for graph in [SHUTTLE, SQUARE, PUMP, CUBE] + [loop_graph(seed, 6) for seed in range(150)] + \
                [moving_graph(seed) for seed in range(20)]:
            told = growths(graph)
            without = tuple(counter for counter in graph.counters if told[counter][0] == "free")
            for size in (6, 5, 4):
                twice = greatest_numbers(graph, 2 * size, without, 6000)
                if twice is None:
                    continue
                once = greatest_numbers(graph, size, without, 6000)
                for thing in once:
                    met[told[thing][0]] += 1
                    self.assertEqual(once[thing] is None, told[thing][0] == "free")
                    if once[thing] and once[thing] > 10:
                        self.assertLess(abs(math.log2(twice[thing] / once[thing]) - told[thing][1]), 0.5)
                break
        self.assertGreater(min(met["power"], met["free"]), 100)

    def test_beyond_and_high_powers_by_force(self):
        numbers = [greatest_numbers(DOUBLE, size, (), 80000) for size in range(1, 5)]
        self.assertEqual([told["x"] for told in numbers], [8, 32, 96, 256])
        self.assertEqual([told["go"] for told in numbers], [2, 3, 4, 5])
        numbers = [greatest_numbers(CUBE, size, (), 80000) for size in (2, 4, 6)]
        self.assertEqual([told["c"] for told in numbers], [22, 170, 574])
        numbers = [greatest_numbers(FOURTH, size, (), 80000) for size in (1, 2)]
        self.assertEqual([(told["c"], told["w"]) for told in numbers], [(9, 4), (76, 12)])

    def test_steps_growth(self):
        self.assertEqual([steps_growth(graph) for graph in (SHUTTLE, PUMP, EMPTY, SIXTH, LADDER)],
                         [("power", 2), ("free", 0), ("power", 0), ("power", 6), ("free", 0)])
        for graph in many_graphs():
            told = [growths(graph)[name] for name in graph.names]
            best = max([order(one) for one in told], default=(0, 0))
            self.assertEqual(order(steps_growth(graph)), best)
            if best == (2, 0):
                self.assertEqual(steps_growth(graph), ("free", min(one[1] for one in told if one[0] == "free")))

    def test_errors_in_order(self):
        for value in odd_values():
            if not isinstance(value, Graph):
                for call in (growths, steps_growth, growth_paper, lambda one: growth(one, None),
                             lambda one: is_growth_paper(one, None), lambda one: growths_by(one, None)):
                    with self.assertRaises(InvalidGraph):
                        call(value)
        for value in odd_names(*SHUTTLE.names, *SHUTTLE.counters):
            with self.assertRaises(UnknownName) as caught:
                growth(SHUTTLE, value)
            self.assertIs(caught.exception.name, value)

    def test_nothing_gives_access(self):
        told = growths(SHUTTLE)
        growths(SHUTTLE).clear()
        paper = growth_paper(SHUTTLE)
        growths_by(SHUTTLE, paper).clear()
        paper[1][0][0].clear()
        self.assertEqual((growths(SHUTTLE), growths_by(SHUTTLE, growth_paper(SHUTTLE))), (told, told))


class TestGrowthPapers(unittest.TestCase):
    def test_papers(self):
        for graph in many_graphs():
            paper = growth_paper(graph)
            self.assertEqual(paper, (ranks_paper(graph), levels_paper(graph)))
            self.assertIs(is_growth_paper(graph, paper), True)
            self.assertEqual(growths_by_papers(graph, paper), growths(graph))
            self.assertEqual(growths_by(graph, paper), growths(graph))
            self.assertEqual(list(growths_by(graph, paper)), list(growths(graph)))
            for ranks, found in zip(scaled_papers(paper[0]), scaled_papers(paper[1])):
                for other in ((ranks, found), (ranks, paper[1]), (paper[0], found)):
                    self.assertIs(is_growth_paper(graph, other), True)
                    self.assertEqual(growths_by(graph, other), growths(graph))

    def test_one_thing_otherwise(self):
        right = 0
        for graph in (PUMP, EMPTY, SHUTTLE, SQUARE, DOUBLE):
            for value in changed_values(growth_paper(graph)):
                expected = growths_by_papers(graph, value)
                self.assertIs(is_growth_paper(graph, value), expected is not None, value)
                if expected is None:
                    with self.assertRaises(InvalidOperation):
                        growths_by(graph, value)
                else:
                    self.assertEqual(growths_by(graph, value), expected)
                    right += 1
        self.assertGreater(right, 0)

    def test_values_of_every_kind(self):
        paper = growth_paper(PUMP)
        for value in odd_values() + [paper[::-1], paper[:1], list(paper), paper + ((),), paper[0], paper[1]]:
            for told in (value, (paper[0], value), (value, paper[1]), (value, value)):
                if told != paper:
                    self.assertIs(is_growth_paper(PUMP, told), False)
                    with self.assertRaises(InvalidOperation):
                        growths_by(PUMP, told)
        self.assertFalse(is_growth_paper(DOUBLE, growth_paper(SHUTTLE)))


class TestOrder(unittest.TestCase):
    def test_examples(self):
        self.assertEqual([compared(("free", 0), ("free", 3)), greatest_growth(("power", 3), ("beyond",)),
                          greatest_growth(), is_growth(("power", True))], ["equal", ("beyond",), ("power", 0), False])

    def test_values_of_every_kind(self):
        for value in SOME:
            self.assertIs(is_growth(value), True)
        for value in odd_growths():
            self.assertIs(is_growth(value), False, value)
            for call in (lambda one: compared(one, None), lambda one: compared(("beyond",), one),
                         lambda one: compared(one, ("free", 0)), greatest_growth,
                         lambda one: greatest_growth(("free", 0), one), lambda one: greatest_growth(one, ("free", 0))):
                with self.assertRaises(InvalidOperation):
                    call(value)

    def test_all_pairs_and_triples(self):
        for one, two in product(SOME, SOME):
            expected = "equal" if order(one) == order(two) else "less" if order(one) < order(two) else "greater"
            self.assertEqual(compared(one, two), expected)
        for many in (1, 2, 3):
            for told in product(SOME, repeat=many):
                best = max(order(one) for one in told)
                expected = min([one for one in told if order(one) == best], key=lambda one: one[1:])
                self.assertEqual(greatest_growth(*told), expected)


class TestChangedGraphs(unittest.TestCase):
    def test_multiplied_changes(self):
        for graph in many_graphs():
            for counter in graph.counters:
                changes = [abs(amount) for row in graph for other, amount in row[3] if other == counter]
                factor = 9 // max(changes, default=1)
                rows = tuple((name, source, target, tuple(
                    (other, amount * (factor if other == counter else 1)) for other, amount in change))
                    for name, source, target, change in graph)
                self.assertEqual(growths(Graph.of(graph.counters, rows, graph.states)), growths(graph))

    def test_a_counter_that_counts(self):
        for graph in many_graphs():
            if len(graph.counters) < 5:
                told = growths(graph)
                for name in graph.names[:6]:
                    self.assertEqual(growths(graph.with_counter("many", {name: 1})), {**told, "many": told[name]})

    def test_copies_and_halves(self):
        for graph in many_graphs():
            told = growths(graph)
            for name, source, target, change in graph.transitions[:6] if len(graph) < 16 else ():
                self.assertEqual(growths(graph.with_transitions(("other", source, target, change))),
                                 {**told, "other": told[name]})
                if len(graph.states) < 8:
                    rows = tuple(row for row in graph if row[0] != name)
                    rows += ((name, source, "new", change), ("other", "new", target, ()))
                    self.assertEqual(growths(Graph.of(graph.counters, rows, graph.states)),
                                     {**told, "other": told[name]})

    def test_graphs_that_share_a_state(self):
        source, greater = random.Random(111), 0
        small = [graph for graph in many_graphs() + [moving_graph(seed) for seed in range(200, 260)]
                 if len(graph) <= 8 and len(graph.states) <= 4]
        for _ in range(150):
            one, two = source.sample(small, 2)
            two = two.renamed("transitions", dict(zip(two.names, ["k" + chr(97 + at) for at in range(16)])))
            two = two.renamed("states", dict(zip(two.states, one.states[:1] + ("ka", "kb", "kc"))))
            counters = tuple(set(one.counters) | set(two.counters))
            if len(counters) > 5 or set(one.names + two.names) & set(counters):
                continue
            told = growths(Graph.of(counters, one.transitions + two.transitions, one.states))
            for graph in (one, two):
                for thing, before in growths(graph).items():
                    self.assertIn(compared(before, told[thing]), ("less", "equal"))
                    greater += compared(before, told[thing]) == "less"
        self.assertGreater(greater, 20)

    def test_more_never_makes_a_growth_less(self):
        source = random.Random(112)
        for graph in many_graphs()[:60]:
            rows = list(graph.transitions)
            at = source.randrange(len(rows)) if rows else 0
            for name, begin, end, change in rows[at:at + 1]:
                told, counter = dict(change), source.choice(graph.counters)
                told[counter] = min(9, told.get(counter, 0) + 1)
                rows[at] = (name, begin, end, tuple(sorted(pair for pair in told.items() if pair[1])))
            more = growths(Graph.of(graph.counters, tuple(rows), graph.states))
            for thing, before in growths(graph).items():
                self.assertIn(compared(before, more[thing]), ("less", "equal"))


if __name__ == "__main__":
    unittest.main()
