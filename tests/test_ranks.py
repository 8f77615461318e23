"""Points 0.12, 8.1 and 8.2, stage "ranks"."""

import unittest

from loopgrowth.errors import InvalidGraph, InvalidOperation, UnknownName
from loopgrowth.graphs.graphs import Graph
from loopgrowth.levels.endless import endless_paper
from loopgrowth.levels.ranks import free, free_walk, is_ranks_paper, ranks_paper
from loopgrowth.walks.recipes import Recipe
from samples import (DOUBLE, EMPTY, PUMP, SHUTTLE, SIXTH, changed_values, graph_of, loop_graph, odd_names, odd_values,
                     scaled_papers)
from sums import greatest_numbers, long_sums, ranks_by

# Each counter can be raised as often as one likes by a loop that lessens the one ahead of it.
LADDER = graph_of("u v w x y", "a p p: u+1", "b p p: u-1 v+1", "c q q: u-1 v+1", "d r r: v-1 w+1", "e s s: w-1 x+1",
                  "go p q: y-1", "on q r: y-1", "up r s: y-1", "back s p:")
# The loop at q takes from u, of which there is as much as one likes.
LATE = graph_of("u v z", "a p p: u+1", "b p p: v-1", "c q q: u-2 v+1", "go p q: z-1", "back q p:")
# The counter v has rank 1, but no transition has it: c and e together change nothing, so they have rank 0.
HIDDEN = graph_of("u v z", "a p p: u+1", "c q q: u-1 v+1", "e q q: u+1 v-1", "go p q: z-1", "back q p:")
# Transitions with a rank in a graph of which no counter has one.
STILL = graph_of("x y", "a p p: x-1 y+1", "b p p: x+1 y-1", "c p q: x-1", "d q p:")


def many_graphs():
    return [SHUTTLE, DOUBLE, PUMP, EMPTY, SIXTH, LADDER, LATE, HIDDEN, STILL] + \
        [loop_graph(seed) for seed in range(150)]


def closed_walk_ranks(graph, longest):
    """The ranks of what short closed walks show, laid here: they are never less than the true ones."""
    every = []
    for start in graph.states:
        layer = {(start, (0,) * len(graph.counters), frozenset())}
        for _ in range(longest):
            layer = {(graph[name][2], tuple(total + dict(graph[name][3]).get(counter, 0)
                                            for counter, total in zip(graph.counters, sums)), names | {name})
                     for state, sums, names in layer for name in graph.leaving(state)}
            every += [(names, sums) for state, sums, names in layer if state == start]
    ranks, left, rank = {}, list(graph.counters), 0
    while True:
        gained = set()
        for names, sums in every:
            told = dict(zip(graph.counters, sums))
            if all(told[counter] >= 0 for counter in left):
                gained |= {counter for counter in left if told[counter] > 0}
                for name in names:
                    ranks.setdefault(name, rank)
        for counter in gained:
            ranks[counter] = rank
        if not gained:
            return ranks
        left = [counter for counter in left if counter not in gained]
        rank += 1


class TestRanks(unittest.TestCase):
    def test_examples(self):
        self.assertEqual([free(PUMP), free(SHUTTLE), free_walk(PUMP, "b").taken("b") > 0, len(ranks_paper(PUMP)),
                          len(ranks_paper(DOUBLE))], [{"a": 0, "b": 1, "u": 0}, {}, True, 2, 1])

    def test_known_graphs(self):
        self.assertEqual(free(LADDER), {"a": 0, "b": 0, "c": 1, "d": 1, "e": 2, "u": 0, "v": 0, "w": 1, "x": 2})
        self.assertEqual(len(ranks_paper(LADDER)), 4)
        self.assertEqual(free(LATE), {"a": 0, "b": 2, "c": 1, "u": 0, "v": 1})
        self.assertEqual(free(STILL), {"a": 0, "b": 0})
        self.assertEqual((free(EMPTY), len(ranks_paper(EMPTY))), ({}, 1))
        every = graph_of("x", "a p q: x+1", "b q p:", "c p p: x-9")
        self.assertEqual((free(every), len(ranks_paper(every))), ({"a": 0, "b": 0, "c": 0, "x": 0}, 2))

    def test_a_rank_that_no_transition_has(self):
        self.assertEqual(free(HIDDEN), {"a": 0, "c": 0, "e": 0, "u": 0, "v": 1})
        self.assertEqual((len(ranks_paper(HIDDEN)), free_walk(HIDDEN, "v").start), (3, "q"))
        self.assertEqual(free(HIDDEN.without("e")), {"a": 0, "c": 1, "u": 0, "v": 1})

    def test_papers_by_own_rounds(self):
        lengths = set()
        for graph in many_graphs():
            paper = ranks_paper(graph)
            ranks = ranks_by(graph, paper)
            self.assertIsNotNone(ranks)
            self.assertEqual(free(graph), ranks)
            self.assertEqual(list(free(graph)), sorted(ranks))
            self.assertIs(is_ranks_paper(graph, paper), True)
            counters = graph.counters
            for rank, told in enumerate(paper):
                self.assertEqual(told, endless_paper(graph, counters))
                counters = tuple(counter for counter in counters if ranks.get(counter, rank + 1) > rank)
            lengths.add(len(paper))
        self.assertLessEqual({1, 2, 3, 4}, lengths)

    def test_against_closed_walks(self):
        equal = 0
        for seed in range(300):
            graph = loop_graph(seed, 5)
            ranks, shown = free(graph), closed_walk_ranks(graph, 6)
            for thing in shown:
                self.assertLessEqual(ranks[thing], shown[thing])
            equal += ranks == shown
        self.assertGreater(equal, 250)

    def test_what_has_no_rank_has_a_greatest_number(self):
        told = 0
        for seed in range(300):
            graph = loop_graph(seed, 6)
            ranks = free(graph)
            without = tuple(counter for counter in graph.counters if counter in ranks)
            for size in (0, 1, 2):
                numbers = greatest_numbers(graph, size, without, 3000)
                if numbers is None:
                    continue
                for thing in graph.names + graph.counters:
                    if thing not in ranks:
                        self.assertIsNotNone(numbers[thing])
                        told += 1
        self.assertGreater(told, 1000)

    def test_what_has_a_rank_has_none(self):
        for graph, size, without in [(PUMP, 1, ("u",)), (STILL, 1, ()), (LATE, 1, ("u", "v"))]:
            numbers = greatest_numbers(graph, size, without)
            for thing, number in numbers.items():
                self.assertEqual(number is None, thing in free(graph))


class TestRanksPapers(unittest.TestCase):
    def test_papers_that_the_program_did_not_make(self):
        for graph in many_graphs():
            paper = ranks_paper(graph)
            for other in scaled_papers(paper):
                self.assertIs(is_ranks_paper(graph, other), True)
            mixed = tuple(scaled_papers(told)[at % 3] for at, told in enumerate(paper))
            self.assertIs(is_ranks_paper(graph, mixed), True)

    def test_ranks_more_less_or_exchanged(self):
        for graph in many_graphs():
            paper = ranks_paper(graph)
            bad = [paper[:-1], paper[1:], paper + paper[-1:], paper + (endless_paper(graph, ()),), list(paper),
                   (paper,), paper[0]]
            if len(paper) > 1:
                bad += [paper[::-1], paper[:1] * len(paper)]
            for value in bad:
                self.assertIs(is_ranks_paper(graph, value), ranks_by(graph, value) is not None, value)
                self.assertIs(is_ranks_paper(graph, value), False)

    def test_one_thing_otherwise(self):
        right = 0
        for graph in (PUMP, STILL, EMPTY, SHUTTLE):
            for value in changed_values(ranks_paper(graph)):
                told = is_ranks_paper(graph, value)
                self.assertIs(told, ranks_by(graph, value) is not None, value)
                right += told
        self.assertGreater(right, 0)

    def test_values_of_every_kind(self):
        for value in odd_values():
            for graph in (SHUTTLE, EMPTY, PUMP):
                self.assertIs(is_ranks_paper(graph, value), False)
                self.assertIs(is_ranks_paper(graph, (value,)), False)
        self.assertFalse(is_ranks_paper(DOUBLE, ranks_paper(SHUTTLE)))

    def test_nothing_gives_access(self):
        kept, same = ranks_paper(PUMP), ranks_paper(PUMP)
        for meeting in ranks_paper(PUMP)[0]:
            meeting[2].clear()
        is_ranks_paper(PUMP, kept)
        free(PUMP)["z"] = 7
        self.assertEqual((kept, ranks_paper(PUMP), free(PUMP)), (same, same, {"a": 0, "b": 1, "u": 0}))


class TestFreeWalks(unittest.TestCase):
    def test_free_walks(self):
        met = set()
        for graph in many_graphs():
            ranks = free(graph)
            for thing in graph.names + graph.counters:
                if thing not in ranks:
                    with self.assertRaises(InvalidOperation):
                        free_walk(graph, thing)
                    continue
                recipe = free_walk(graph, thing)
                self.assertEqual((recipe.graph, recipe.end), (graph, recipe.start))
                self.assertEqual(Recipe.of(graph, recipe.row, recipe.start), recipe)
                _, effects, _, _, counts = long_sums(graph, recipe.row)
                effect = dict(zip(graph.counters, effects))
                for counter in graph.counters:
                    if ranks.get(counter, ranks[thing]) >= ranks[thing]:
                        self.assertGreaterEqual(effect[counter], 0)
                self.assertGreater(counts[thing] if thing in graph.names else effect[thing], 0)
                met.add(ranks[thing])
        self.assertLessEqual({0, 1, 2}, met)

    def test_errors_in_order(self):
        for value in odd_values():
            if not isinstance(value, Graph):
                for call in (lambda one: free(one), lambda one: ranks_paper(one),
                             lambda one: is_ranks_paper(one, None), lambda one: free_walk(one, None)):
                    with self.assertRaises(InvalidGraph):
                        call(value)
        for value in odd_names(*SHUTTLE.names, *SHUTTLE.counters):
            with self.assertRaises(UnknownName) as caught:
                free_walk(SHUTTLE, value)
            self.assertIs(caught.exception.name, value)
        for thing in ("go", "back", "z"):
            with self.assertRaises(InvalidOperation):
                free_walk(PUMP, thing)


if __name__ == "__main__":
    unittest.main()
