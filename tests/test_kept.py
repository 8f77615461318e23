"""What a graph is asked again, in any order: equal graphs have equal answers, and nothing that was returned counts."""

import random
import unittest

from loopgrowth.bounds.bounds import bound, bounds, level_bounds
from loopgrowth.bounds.growing import growing, scale
from loopgrowth.errors import InvalidNumber, InvalidOperation
from loopgrowth.graphs.graphs import Graph
from loopgrowth.levels.beyond import beyond, doubling, is_doubling, joined_doublings
from loopgrowth.levels.endless import (endless, endless_paper, endless_walk, every_run_ends, is_endless_paper)
from loopgrowth.levels.growths import growth, growth_paper, growths, growths_by, is_growth_paper, steps_growth
from loopgrowth.levels.levels import (exponents, exponents_of, is_levels_paper, level_balance, levels, levels_paper,
                                      rest)
from loopgrowth.levels.ranks import free, free_walk, is_ranks_paper, ranks_paper
from loopgrowth.walks.recipes import Recipe
from samples import (BESIDE, CUBE, DOUBLE, EMPTY, PUMP, SHUTTLE, changed_values, graph_of, loop_graph, moving_graph,
                     scaled_papers)
from sums import is_doubling_by

# The graphs of the issue for which these answers took long.
LONG = graph_of("v w x y z", "er e r: x-1 y+1", "cc r r: v+1 w-1", "rs r s:", "dd s s: v-1 w+1", "se s e:", "eg e g:",
                "b g g: w+1 x+1 y-1", "ge g e: x-1 z+1", "ef e f:", "c f f: x+1 z-1", "fe f e: x-1")
RAISED = graph_of("u v x y z", "a p p: x-1 y+1", "b q q: x+2 y-1", "c p p: u+1", "d q q: u-1 v+1", "e p p: v-1",
                  "go p q:", "back q p: z-1")


def fresh(graph):
    """An equal graph that has not been asked anything."""
    return Graph.of(graph.counters, graph.transitions, graph.states)


def plain(value):
    """An answer that can be compared when the one that was returned has been spoiled."""
    if isinstance(value, Recipe):
        return "recipe", value.row, value.start
    if isinstance(value, dict):
        return "dict", tuple((plain(key), plain(one)) for key, one in value.items())
    if isinstance(value, (tuple, list)):
        return tuple(plain(one) for one in value)
    if hasattr(value, "coefficients"):
        return "polynomial", value.coefficients
    if hasattr(value, "meeting"):
        return "balance", value.names, plain(value.parts), value.rows, plain(value.meeting())
    return value


def spoil(value):
    """Changes all that can be changed in what was returned."""
    if isinstance(value, dict):
        for one in list(value.values()):
            spoil(one)
        for key in list(value)[::2]:
            value[key] = 77
        for key in list(value)[1::2]:
            del value[key]
        value["spoiled"] = -1
    elif isinstance(value, (tuple, list)):
        for one in value:
            spoil(one)
        if isinstance(value, list):
            value.clear()
    elif hasattr(value, "meeting"):
        spoil(value.meeting())
        spoil(value.parts)
    elif isinstance(value, Recipe):
        spoil([value.effect, value.needs])


def told_or_error(call):
    try:
        return call()
    except (InvalidNumber, InvalidOperation) as error:
        return type(error).__name__


QUESTIONS = [
    free, exponents, growths, bounds, rest, beyond, doubling, every_run_ends, ranks_paper, levels_paper, growth_paper,
    steps_growth, scale, lambda graph: list(levels(graph)),
    lambda graph: [growth(graph, one) for one in graph.counters],
    lambda graph: [level_balance(graph, level) for level in range(1, len(levels_paper(graph)) + 1)],
    lambda graph: [told_or_error(lambda: level_balance(graph, level)) for level in (0, 1, 2, 5, 40)],
    lambda graph: [bound(graph, thing) for thing in graph.counters + graph.names],
    lambda graph: [growing(graph, thing, 10 ** 9) for thing in graph.counters[:2] + graph.names[:2]],
    lambda graph: [told_or_error(lambda: free_walk(graph, thing)) for thing in graph.counters + graph.names],
    lambda graph: [endless(graph, graph.counters[at:]) for at in range(len(graph.counters) + 1)],
    lambda graph: endless_paper(graph, graph.counters[::-1] + graph.counters[:1]),
    lambda graph: endless_walk(graph, graph.counters, graph.counters[0]),
    lambda graph: [is_levels_paper(graph, ()), is_ranks_paper(graph, ()), is_growth_paper(graph, ((), ()))],
    lambda graph: [is_levels_paper(graph, paper) for paper in OTHERS],
    lambda graph: is_levels_paper(graph, levels_paper(fresh(graph))),
    lambda graph: is_levels_paper(graph, levels_paper(fresh(graph))[:-1]),
    lambda graph: is_growth_paper(graph, growth_paper(fresh(graph))),
    lambda graph: exponents_of(graph, levels_paper(fresh(graph))),
    lambda graph: growths_by(graph, growth_paper(fresh(graph))),
    lambda graph: level_bounds(graph, levels_paper(fresh(graph))),
    lambda graph: [is_doubling(graph, value) for value in DOUBLINGS],
]
OTHERS = [levels_paper(fresh(graph)) for graph in (SHUTTLE, DOUBLE, PUMP, LONG)]
DOUBLINGS = [(), ({"a": 3, "b": 2}, ("x", "y")), ({"a": 3, "b": 2, "d": 1}, ("v", "x", "y")),
             ({"a": 3, "b": 2, "d": 1}, ("x", "y")), ({"a": 1, "b": 1}, ("x",))]


def graphs():
    return [SHUTTLE, DOUBLE, PUMP, EMPTY, CUBE, LONG, RAISED, BESIDE] + [loop_graph(seed) for seed in range(8)] + \
        [moving_graph(seed) for seed in range(6)]


def differing(graph):
    """Graphs that differ from this one in one part."""
    told = [graph.renamed("counters", {graph.counters[0]: "k"}), graph.renamed("states", {graph.states[0]: "k"})]
    for at, (name, source, target, change) in enumerate(graph.transitions):
        rest = graph.transitions[:at] + graph.transitions[at + 1:]
        for counter in graph.counters:
            amount = dict(change).get(counter, 0)
            amounts = {**dict(change), counter: amount + 1 if amount < 9 else 8}
            row = (name, source, target, tuple(sorted(pair for pair in amounts.items() if pair[1])))
            told.append(Graph.of(graph.counters, rest + (row,)))
        told.append(Graph.of(graph.counters, rest + (("fresh", source, target, change),)))
        if len(graph) < 16:
            told.append(Graph.of(graph.counters, graph.transitions + (("fresh", target, target, ()),)))
    return told


class TestKept(unittest.TestCase):
    def test_long_graphs(self):
        self.assertEqual([len(levels_paper(LONG)), is_levels_paper(LONG, levels_paper(fresh(LONG)))], [9, True])
        self.assertEqual([is_levels_paper(LONG, ()), is_doubling(RAISED, ()),
                          is_doubling(RAISED, ({"a": 3, "b": 2, "d": 1}, ("v", "x", "y")))], [False, False, False])
        self.assertEqual([level_balance(LONG, level).names for level in (1, 9)],
                         [LONG.names, levels_by_hand(LONG, 8)])

    def test_asked_again_in_any_order(self):
        source = random.Random(141)
        for graph in graphs():
            expected = [plain(question(fresh(graph))) for question in QUESTIONS]
            for _ in range(3):
                same = fresh(graph)
                order = list(range(len(QUESTIONS))) * 2
                source.shuffle(order)
                for at in order:
                    self.assertEqual(plain(QUESTIONS[at](same)), expected[at], (str(graph), at))

    def test_what_was_returned_counts_no_more(self):
        source = random.Random(142)
        for graph in graphs():
            expected = [plain(question(fresh(graph))) for question in QUESTIONS]
            same = fresh(graph)
            order = list(range(len(QUESTIONS))) * 2
            source.shuffle(order)
            for at in order:
                spoil(QUESTIONS[at](same))
            for at in order:
                self.assertEqual(plain(QUESTIONS[at](same)), expected[at], (str(graph), at))
            self.assertEqual(same, graph)

    def test_what_was_passed_counts_no_more(self):
        for graph in (DOUBLE, RAISED, LONG, PUMP):
            same = fresh(graph)
            paper, told = levels_paper(fresh(graph)), growth_paper(fresh(graph))
            self.assertTrue(is_levels_paper(same, paper) and is_growth_paper(same, told))
            spoil([paper, told])
            self.assertFalse(is_levels_paper(same, paper) or is_growth_paper(same, told))
            self.assertEqual(plain(levels_paper(same)), plain(levels_paper(fresh(graph))))
            value = ({"a": 3, "b": 2}, ("x", "y"))
            if is_doubling(same, value):
                value[0]["a"] = 5
                self.assertFalse(is_doubling(same, value))

    def test_papers_of_others_leave_no_numbers_behind(self):
        for graph in graphs():
            expected = [plain(question(fresh(graph))) for question in QUESTIONS]
            for other in scaled_papers(growth_paper(fresh(graph))):
                same = fresh(graph)
                self.assertTrue(is_growth_paper(same, other))
                self.assertTrue(is_levels_paper(same, other[1]) and is_ranks_paper(same, other[0]))
                self.assertTrue(is_endless_paper(same, same.counters, other[0][0]))
                self.assertEqual([plain(question(same)) for question in QUESTIONS], expected)

    def test_wrong_papers_leave_nothing_behind(self):
        source = random.Random(143)
        for graph in (SHUTTLE, DOUBLE, PUMP, RAISED):
            paper, ranks = levels_paper(fresh(graph)), ranks_paper(fresh(graph))
            others = source.sample(changed_values(paper), 150)
            told = [is_levels_paper(fresh(graph), other) for other in others]
            self.assertIn(False, told)
            same = fresh(graph)
            self.assertEqual([is_levels_paper(same, other) for other in others], told)
            self.assertEqual([is_levels_paper(same, other) for other in others], told)
            for other in source.sample(changed_values(ranks), 60):
                self.assertIs(is_ranks_paper(same, other), is_ranks_paper(fresh(graph), other))
                self.assertIs(is_growth_paper(same, (other, paper)), is_growth_paper(fresh(graph), (other, paper)))
            # A paper that stops too early, or goes on too long, also where the levels are known.
            for known in (same, fresh(graph)):
                self.assertEqual([is_levels_paper(known, paper[:many]) for many in range(len(paper) + 1)],
                                 [False] * len(paper) + [True])
                self.assertFalse(is_levels_paper(known, paper + paper[-1:]))
            self.assertEqual(plain(levels_paper(same)), plain(paper))

    def test_graphs_that_differ_share_no_answer(self):
        source = random.Random(144)
        for graph in (SHUTTLE, DOUBLE, PUMP, RAISED, loop_graph(2), moving_graph(1)):
            first = fresh(graph)
            expected = [plain(question(fresh(graph))) for question in QUESTIONS]
            for other in source.sample(differing(graph), 8):
                second = fresh(other)
                self.assertNotEqual(first, second)
                for at in source.sample(range(len(QUESTIONS)), 14):
                    self.assertEqual(plain(QUESTIONS[at](first)), expected[at])
                    self.assertEqual(plain(QUESTIONS[at](second)), plain(QUESTIONS[at](fresh(other))))
            # What is made of a graph that has been asked is asked anew.
            names = {graph.counters[0]: "k"}
            self.assertEqual(growths(first.renamed("counters", names)),
                             growths(fresh(graph).renamed("counters", names)))

    def test_growths_that_change_with_one_part(self):
        first = fresh(SHUTTLE)
        self.assertEqual(growth(first, "a"), ("power", 2))
        second = first.without("b").with_transitions(("b", "q", "q", (("x", 2), ("y", -1))))
        self.assertEqual([growth(second, "a"), growth(first, "a")], [("beyond",), ("power", 2)])
        third = second.with_transitions(("up", "p", "p", (("x", 1),)))
        self.assertEqual([growth(third, "x"), growth(second, "x"), growth(first, "x")],
                         [("free", 0), ("beyond",), ("power", 1)])

    def test_doublings_by_the_sums_of_the_tests(self):
        for graph in [DOUBLE, RAISED, LONG, BESIDE] + [moving_graph(seed) for seed in range(12)]:
            ranks = free(graph)
            told = doubling(graph)
            self.assertTrue(told is None or is_doubling_by(graph, ranks, told))
            values = changed_values(told) + [told] if told else DOUBLINGS
            for value in values:
                self.assertIs(is_doubling(graph, value), is_doubling_by(graph, ranks, value), value)
            if told:
                self.assertTrue(is_doubling_by(graph, ranks, joined_doublings(graph, told, told)))


def levels_by_hand(graph, level):
    """The transitions that are left behind a level, by what the levels find."""
    found = [name for names, _ in list(levels(graph))[:level] for name in names]
    return tuple(name for name in graph.names if name not in found)


if __name__ == "__main__":
    unittest.main()
