"""Points 0.18 and 7.1, stage "endless walks"."""

import random
import unittest
from itertools import combinations

from loopgrowth.errors import InvalidGraph, InvalidOperation, UnknownName
from loopgrowth.graphs.graphs import Graph
from loopgrowth.levels.balances import Balance
from loopgrowth.levels.endless import endless, endless_paper, endless_walk, every_run_ends, is_endless_paper
from loopgrowth.walks.recipes import Recipe
from samples import (DOUBLE, EMPTY, PUMP, SHUTTLE, SIXTH, changed_values, graph_of, loop_graph, odd_names, odd_values,
                     scaled_papers)
from sums import endless_by, long_sums, parts_of

# Two states at which walks without an end go round, and ways between them that cost z.
TWO = graph_of("x y z", "a p p: x+1 y-1", "b q q: x-1 y+1", "c p p: y+1", "d q q: x+1", "go p q: z-1", "back q p:")


def choices(graph):
    """All choices of the counters of a graph, also none."""
    return [told for many in range(len(graph.counters) + 1) for told in combinations(graph.counters, many)]


def many_graphs():
    return [SHUTTLE, DOUBLE, PUMP, EMPTY, SIXTH, TWO] + [loop_graph(seed) for seed in range(120)]


def closed_walks(graph, longest):
    """The pairs (transitions, effects) of all closed walks up to some length."""
    found = set()
    for start in graph.states:
        layer = {(start, (0,) * len(graph.counters), frozenset())}
        for _ in range(longest):
            longer = set()
            for state, sums, names in layer:
                for name in graph.leaving(state):
                    told = dict(graph[name][3])
                    new = tuple(total + told.get(counter, 0) for counter, total in zip(graph.counters, sums))
                    longer.add((graph[name][2], new, names | {name}))
            layer = longer
            found |= {(names, sums) for state, sums, names in layer if state == start}
    return found


def check_walk(case, graph, counters, thing, recipe):
    case.assertIsInstance(recipe, Recipe)
    case.assertEqual((recipe.graph, recipe.end), (graph, recipe.start))
    case.assertEqual(Recipe.of(graph, recipe.row, recipe.start), recipe)
    _, effects, _, _, counts = long_sums(graph, recipe.row)
    effect = dict(zip(graph.counters, effects))
    case.assertTrue(all(effect[counter] >= 0 for counter in counters))
    case.assertGreater(counts[thing] if thing in graph.names else effect[thing], 0)


class TestEndless(unittest.TestCase):
    def test_examples(self):
        self.assertEqual([endless(PUMP, ("u", "z")), endless(PUMP, ("z",)), every_run_ends(PUMP),
                          every_run_ends(DOUBLE)], [(("a",), ("u",)), (("a", "b"), ()), False, True])
        self.assertEqual([endless_walk(PUMP, ("u", "z"), "u").effect["z"], endless_walk(PUMP, ("u", "z"), "b"),
                          len(endless_paper(SHUTTLE, SHUTTLE.counters))], [0, None, 3])

    def test_known_graphs(self):
        self.assertEqual(endless(SHUTTLE, ()), (SHUTTLE.names, ()))
        self.assertEqual(endless(SHUTTLE, ("x", "y")), (SHUTTLE.names, ()))
        self.assertEqual(endless(DOUBLE, ("x", "y")), (DOUBLE.names, ("x", "y")))
        self.assertEqual(endless(SHUTTLE, ("z",)), (("a", "b"), ()))
        self.assertEqual(endless(SHUTTLE, ("y",)), (SHUTTLE.names, ("y",)))
        self.assertEqual(endless(SHUTTLE, ("y", "z")), (("a",), ("y",)))
        self.assertEqual(endless(TWO, ("x", "y", "z")), (("a", "b", "c", "d"), ("x", "y")))
        self.assertEqual(endless(EMPTY, ("x",)), ((), ()))
        self.assertEqual([every_run_ends(graph) for graph in (SHUTTLE, EMPTY, SIXTH, TWO)], [True, True, True, False])
        still = graph_of("x", "a p p:")
        self.assertEqual((endless(still, ("x",)), every_run_ends(still)), ((("a",), ()), False))

    def test_papers_by_own_rounds(self):
        for graph in many_graphs():
            for counters in choices(graph):
                paper = endless_paper(graph, counters)
                shown = endless_by(graph, counters, paper)
                self.assertIsNotNone(shown)
                self.assertEqual(endless(graph, counters), shown)
                self.assertIs(is_endless_paper(graph, counters, paper), True)
                self.assertTrue(all(abs(number) < 10 ** 900 for meeting in paper for told in meeting
                                    for number in told.values()))
            self.assertIs(every_run_ends(graph), endless(graph, graph.counters)[0] == ())

    def test_order_and_repeats_mean_nothing(self):
        source = random.Random(71)
        for graph in many_graphs()[::4]:
            for counters in choices(graph):
                mixed = list(counters) * 2
                source.shuffle(mixed)
                self.assertEqual(endless(graph, tuple(mixed)), endless(graph, counters))
                self.assertEqual(endless_paper(graph, tuple(mixed)), endless_paper(graph, counters))
                self.assertTrue(is_endless_paper(graph, tuple(mixed), endless_paper(graph, counters)))

    def test_against_closed_walks(self):
        met = 0
        for seed in range(300):
            graph = loop_graph(seed, 5)
            walks = closed_walks(graph, 6)
            for counters in choices(graph):
                places = [graph.counters.index(counter) for counter in counters]
                told = [(names, sums) for names, sums in walks if all(sums[at] >= 0 for at in places)]
                taken = set().union(*[names for names, _ in told])
                gained = {counter for _, sums in told for counter, at in zip(counters, places) if sums[at] > 0}
                names, raised = endless(graph, counters)
                self.assertLessEqual(taken, set(names))
                self.assertLessEqual(gained, set(raised))
                met += (taken, gained) == (set(names), set(raised))
        # Nearly always such a short walk is enough, so what is told is not too much either.
        self.assertGreater(met, 2000)

    def test_counters_that_are_not_asked_for_do_not_hinder(self):
        for graph in many_graphs()[:60]:
            for counters in choices(graph):
                if counters and len(counters) < len(graph.counters):
                    less = graph
                    for counter in set(graph.counters) - set(counters):
                        less = less.without_counter(counter)
                    self.assertEqual(endless(graph, counters), endless(less, less.counters))

    def test_without_transitions(self):
        for graph in (EMPTY, Graph(("x", "y", "z"), states=("p",))):
            for counters in choices(graph):
                paper = endless_paper(graph, counters)
                self.assertEqual(paper, (({}, paper[0][1], {}),))
                self.assertEqual(endless(graph, counters), ((), ()))
                self.assertTrue(is_endless_paper(graph, counters, (({}, {"p": -7}, {}),)))
                self.assertFalse(is_endless_paper(graph, counters, ()))
                self.assertFalse(is_endless_paper(graph, counters, paper * 2))

    def test_papers_of_several_lengths(self):
        lengths = {len(endless_paper(graph, counters)) for graph in many_graphs() for counters in choices(graph)}
        self.assertLessEqual({1, 2, 3}, lengths)


class TestEndlessPapers(unittest.TestCase):
    def test_papers_that_the_program_did_not_make(self):
        for graph in many_graphs()[:80]:
            counters = graph.counters
            paper = endless_paper(graph, counters)
            for other in scaled_papers(paper):
                self.assertIs(is_endless_paper(graph, counters, other), True)
                names = [tuple(meeting[2]) for meeting in paper]
                balances = [Balance(graph, told, dict.fromkeys(counters, parts_of(graph, told))) for told in names]
                both = tuple(balance.added(one, two) for balance, one, two in zip(balances, paper, other))
                self.assertIs(is_endless_paper(graph, counters, both), True)
            turned = tuple(tuple(dict(reversed(told.items())) for told in meeting) for meeting in paper)
            self.assertIs(is_endless_paper(graph, counters, turned), True)

    def test_rounds_more_less_or_exchanged(self):
        for graph in many_graphs()[:80]:
            counters = graph.counters
            paper = endless_paper(graph, counters)
            bad = [paper[:-1], paper[1:], paper + paper[-1:], paper[:1] + paper, list(paper), (paper,), ()]
            if len(paper) > 1:
                bad += [paper[::-1], paper[1:] + paper[:1]]
            for value in bad:
                self.assertIs(is_endless_paper(graph, counters, value), False)

    def test_one_thing_otherwise(self):
        right = 0
        for graph, counters in [(SHUTTLE, ("x", "y", "z")), (PUMP, ("u", "z")), (TWO, ("x", "z")), (SHUTTLE, ("y",)),
                                (EMPTY, ("x",)), (DOUBLE, ())]:
            paper = endless_paper(graph, counters)
            for value in changed_values(paper):
                told = is_endless_paper(graph, counters, value)
                self.assertIs(told, endless_by(graph, counters, value) is not None, value)
                right += told
        self.assertGreater(right, 0)

    def test_papers_of_other_counters(self):
        paper = endless_paper(PUMP, ("u", "z"))
        self.assertFalse(is_endless_paper(PUMP, ("u",), paper))
        self.assertFalse(is_endless_paper(PUMP, (), paper))
        self.assertFalse(is_endless_paper(SHUTTLE, ("x", "y", "z"), endless_paper(SHUTTLE, ("x", "y"))))
        self.assertFalse(is_endless_paper(DOUBLE, ("x", "y"), endless_paper(SHUTTLE, ("x", "y"))))
        for value in odd_values():
            self.assertIs(is_endless_paper(SHUTTLE, ("x",), value), False)
            self.assertIs(is_endless_paper(EMPTY, (), value), False)


class TestEndlessWalks(unittest.TestCase):
    def test_walks(self):
        several, source = 0, random.Random(73)
        for graph in many_graphs():
            every = choices(graph)
            for counters in source.sample(every, min(3, len(every))):
                names, gained = endless(graph, counters)
                several += len(parts_of(graph, names)) > 1
                for thing in graph.names + counters:
                    recipe = endless_walk(graph, counters, thing)
                    if thing in names + gained:
                        check_walk(self, graph, counters, thing, recipe)
                    else:
                        self.assertIsNone(recipe)
        self.assertGreater(several, 20)

    def test_several_components(self):
        for thing in ("a", "b", "c", "d", "x", "y"):
            check_walk(self, TWO, ("x", "y", "z"), thing, endless_walk(TWO, ("x", "y", "z"), thing))
        self.assertEqual(endless_walk(TWO, ("x", "y", "z"), "a").start, "p")
        self.assertEqual(endless_walk(TWO, ("x", "y", "z"), "b").start, "q")
        self.assertIsNone(endless_walk(TWO, ("x", "y", "z"), "go"))

    def test_errors_in_order(self):
        for value in odd_values():
            if not isinstance(value, Graph):
                for call in (lambda one: endless(one, None), lambda one: every_run_ends(one),
                             lambda one: endless_paper(one, None), lambda one: is_endless_paper(one, None, None),
                             lambda one: endless_walk(one, None, None)):
                    with self.assertRaises(InvalidGraph):
                        call(value)
            for call in (lambda one: endless(SHUTTLE, one), lambda one: endless_paper(SHUTTLE, one),
                         lambda one: is_endless_paper(SHUTTLE, one, None),
                         lambda one: endless_walk(SHUTTLE, one, None)):
                if not isinstance(value, tuple):
                    with self.assertRaises(InvalidOperation):
                        call(value)
            if value not in SHUTTLE.counters:
                for call in (lambda one: endless(SHUTTLE, one), lambda one: endless_paper(SHUTTLE, one),
                             lambda one: is_endless_paper(SHUTTLE, one, None),
                             lambda one: endless_walk(SHUTTLE, one, None)):
                    with self.assertRaises(UnknownName) as caught:
                        call(("x", value, "nosuch"))
                    self.assertIs(caught.exception.name, value)
        for value in odd_names(*SHUTTLE.names, *SHUTTLE.counters):
            with self.assertRaises(UnknownName) as caught:
                endless_walk(SHUTTLE, (), value)
            self.assertIs(caught.exception.name, value)
        for counters in ((), ("y",), ("z", "y")):
            with self.assertRaises(InvalidOperation):
                endless_walk(SHUTTLE, counters, "x")

    def test_nothing_gives_access(self):
        paper = endless_paper(PUMP, ("u", "z"))
        for meeting in paper:
            for told in meeting:
                told.clear()
        self.assertTrue(is_endless_paper(PUMP, ("u", "z"), endless_paper(PUMP, ("u", "z"))))
        kept = endless_paper(PUMP, ("u", "z"))
        same = endless_paper(PUMP, ("u", "z"))
        is_endless_paper(PUMP, ("u", "z"), kept)
        self.assertEqual((kept, [list(told) for meeting in kept for told in meeting]),
                         (same, [list(told) for meeting in same for told in meeting]))


if __name__ == "__main__":
    unittest.main()
