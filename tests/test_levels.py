"""Points 0.19, 0.20, 9.1 and 9.2, stage "levels"."""

import random
import unittest

from loopgrowth.errors import InvalidGraph, InvalidNumber, InvalidOperation
from loopgrowth.graphs.graphs import Graph
from loopgrowth.levels.balances import Balance
from loopgrowth.levels.endless import endless
from loopgrowth.levels.levels import (exponents, exponents_of, is_levels_paper, level_balance, levels, levels_paper,
                                      rest)
from loopgrowth.levels.ranks import free
from samples import (DOUBLE, EMPTY, FOURTH, PUMP, SHUTTLE, SIXTH, SQUARE, changed_values, graph_of, loop_graph,
                     odd_numbers, odd_values, random_graph, scaled_papers)
from sums import carried_by, levels_by, parts_of

# w has no transition that changes it, u is free, and z pays for the ways.
MIXED = graph_of("u w x y z", "a p p: x-1 y+1", "b q q: x+1 y-1", "c q q: u+1", "d p p: u-1 y-1", "go p q:",
                 "back q p: z-1")
LONELY = Graph(("x", "y"), states=("p",))


def many_graphs():
    return [SHUTTLE, DOUBLE, PUMP, EMPTY, LONELY, MIXED, SQUARE, FOURTH, SIXTH] + \
        [loop_graph(seed) for seed in range(150)] + [random_graph(seed, 2) for seed in range(20)]


def places(graph):
    """The places of the growths of all things in the order of growths, from what these modules tell."""
    ranks, told = free(graph), exponents(graph)
    return {thing: (2, 0) if thing in ranks else (0, told[thing]) if thing in told else (1, 0)
            for thing in graph.names + graph.counters}


def more_of(source, graph):
    """A graph with one transition more, or one change greater."""
    rows = list(graph.transitions)
    if len(rows) < 16 and (not rows or source.random() < 0.5):
        change = tuple((counter, source.choice((-9, -1, 1))) for counter in graph.counters if source.random() < 0.5)
        rows.append(("newone", source.choice(graph.states), source.choice(graph.states), change))
    else:
        at = source.randrange(len(rows))
        name, begin, end, change = rows[at]
        told, counter = dict(change), source.choice(graph.counters)
        told[counter] = min(9, told.get(counter, 0) + source.randint(1, 3))
        rows[at] = (name, begin, end, tuple(sorted((key, amount) for key, amount in told.items() if amount)))
    return Graph.of(graph.counters, tuple(rows), graph.states)


class TestLevels(unittest.TestCase):
    def test_examples(self):
        self.assertEqual(list(levels(SHUTTLE)), [(("back", "go"), ("x", "y", "z")), (("a", "b"), ()), ((), ())])
        self.assertEqual([exponents(DOUBLE), rest(DOUBLE), len(levels_paper(DOUBLE)), exponents(PUMP), rest(PUMP),
                          level_balance(SHUTTLE, 2).rows[:2]],
                         [{"back": 1, "go": 1, "z": 1}, (("a", "b"), ("x", "y")), 2, {"back": 1, "go": 1, "z": 1},
                          (("a", "b"), ()), (("x", ("p",)), ("x", ("q",)))])

    def test_known_graphs(self):
        first = dict.fromkeys(("back", "go", "x", "y"), 1)
        self.assertEqual(exponents(SQUARE), {"a": 2, "b": 2, **first})
        told = {**exponents(SQUARE), "in": 1, "out": 1, "off": 2, "on": 2, "v": 2, "w": 2, "c": 4, "d": 4}
        self.assertEqual(exponents(FOURTH), told)
        self.assertEqual(list(levels(FOURTH)), [
            (("back", "go", "in", "out"), ("x", "y")), (("a", "b", "off", "on"), ("v", "w")), ((), ()),
            (("c", "d"), ()), ((), ()), ((), ())])
        self.assertEqual(exponents(SIXTH), {**told, "over": 1, "again": 4, "ahead": 4, "u": 4, "e": 6, "f": 6})
        self.assertEqual(len(list(levels(SIXTH))), 10)
        self.assertEqual((rest(SIXTH), rest(FOURTH), rest(SQUARE)), (((), ()),) * 3)
        self.assertGreater(max(exponents(SIXTH).values()), len(SIXTH.counters))

    def test_without_transitions(self):
        self.assertEqual(list(levels(EMPTY)), [((), ("x",)), ((), ())])
        self.assertEqual(list(levels(LONELY)), [((), ("x", "y")), ((), ())])
        self.assertEqual((exponents(LONELY), rest(LONELY), len(levels_paper(LONELY))), ({"x": 1, "y": 1}, ((), ()), 2))

    def test_free_counters_and_counters_that_do_not_change(self):
        self.assertEqual(free(MIXED), {"c": 0, "u": 0})
        self.assertEqual(exponents(MIXED), {"a": 2, "b": 2, "back": 1, "d": 1, "go": 1, "w": 1, "x": 1, "y": 1, "z": 1})
        self.assertEqual(rest(MIXED), (("c",), ()))
        every = graph_of("x", "a p q: x+1", "b q p:")
        self.assertEqual((list(levels(every)), rest(every)), ([((), ())], (("a", "b"), ())))
        self.assertEqual(level_balance(every, 1), Balance(every, ("a", "b"), {}))

    def test_papers_by_own_levels(self):
        lengths, gaps = set(), 0
        for graph in many_graphs():
            paper, ranks = levels_paper(graph), free(graph)
            found = levels_by(graph, ranks, paper)
            self.assertIsNotNone(found)
            self.assertEqual(list(levels(graph)), found)
            told = {thing: at + 1 for at, pair in enumerate(found) for thing in pair[0] + pair[1]}
            self.assertEqual(exponents(graph), told)
            self.assertEqual(list(exponents(graph)), sorted(told))
            self.assertEqual(rest(graph), (carried_by(paper[-1]), tuple(
                counter for counter in graph.counters if counter not in told and counter not in ranks)))
            self.assertIs(is_levels_paper(graph, paper), True)
            self.assertEqual(exponents_of(graph, paper), told)
            self.assertEqual(list(exponents_of(graph, paper)), sorted(told))
            self.assertTrue(all(abs(number) < 10 ** 900 for meeting in paper for part in meeting
                                for number in part.values()))
            lengths.add(len(paper))
            gaps += ((), ()) in found[:-1]
        self.assertLessEqual({1, 2, 3, 6, 10}, lengths)
        self.assertGreater(gaps, 1)

    def test_level_balances(self):
        for graph in many_graphs():
            paper, ranks, told = levels_paper(graph), free(graph), exponents(graph)
            kept = [graph.names] + [carried_by(meeting) for meeting in paper]
            for level in range(1, len(paper) + 1):
                parts = {counter: parts_of(graph, kept[level - told[counter]]) if told.get(counter, level) < level
                         else (graph.states,) for counter in graph.counters if counter not in ranks}
                balance = level_balance(graph, level)
                self.assertEqual(balance, Balance(graph, kept[level - 1], parts))
                self.assertTrue(balance.is_meeting(paper[level - 1]))
            for value in (0, -1, len(paper) + 1, len(paper) + 2, 10 ** 999, True):
                with self.assertRaises(InvalidNumber) as caught:
                    level_balance(graph, value)
                self.assertIs(caught.exception.value, value)

    def test_behind_the_last_level_nothing_is_found(self):
        for graph in many_graphs():
            paper, ranks, told = levels_paper(graph), free(graph), exponents(graph)
            last, left = level_balance(graph, len(paper)), rest(graph)
            kept = parts_of(graph, left[0])
            parts = {counter: kept if counter in told else (graph.states,)
                     for counter in graph.counters if counter not in ranks}
            self.assertEqual(last, Balance(graph, left[0], parts))
            self.assertEqual(last.falling(), ())

    def test_free_transitions_are_never_found(self):
        for graph in many_graphs():
            names, counters = rest(graph)
            ranks = free(graph)
            self.assertEqual(set(ranks) & set(exponents(graph)), set())
            self.assertLessEqual({thing for thing in ranks if thing in graph.names}, set(names))
            if not counters:
                self.assertLessEqual(set(names), set(ranks))


class TestLevelsPapers(unittest.TestCase):
    def test_papers_that_the_program_did_not_make(self):
        for graph in many_graphs():
            paper, told = levels_paper(graph), exponents(graph)
            for other in scaled_papers(paper):
                self.assertIs(is_levels_paper(graph, other), True)
                self.assertEqual(exponents_of(graph, other), told)
                both = tuple(level_balance(graph, at + 1).added(one, two)
                             for at, (one, two) in enumerate(zip(paper, other)))
                self.assertIs(is_levels_paper(graph, both), True)

    def test_papers_that_end_too_early_or_go_on_too_long(self):
        for graph in many_graphs():
            paper = levels_paper(graph)
            bad = [paper[:at] for at in range(len(paper))] + [paper + paper[-1:], paper + paper[-1:] * 3, list(paper),
                                                              (paper,), paper[1:], paper[:1] + paper]
            if len(paper) > 1 and paper[0] != paper[-1]:
                bad += [paper[::-1], paper[1:] + paper[:1]]
            for value in bad:
                self.assertIsNone(levels_by(graph, free(graph), value))
                self.assertIs(is_levels_paper(graph, value), False)
                with self.assertRaises(InvalidOperation):
                    exponents_of(graph, value)

    def test_one_thing_otherwise(self):
        right = 0
        for graph in (PUMP, EMPTY, SHUTTLE, SQUARE, DOUBLE):
            for value in changed_values(levels_paper(graph)):
                told = is_levels_paper(graph, value)
                self.assertIs(told, levels_by(graph, free(graph), value) is not None, value)
                right += told
        self.assertGreater(right, 0)

    def test_values_of_every_kind(self):
        for value in odd_values():
            for graph in (SHUTTLE, EMPTY, PUMP):
                self.assertIs(is_levels_paper(graph, value), False)
                self.assertIs(is_levels_paper(graph, (value,)), False)
                with self.assertRaises(InvalidOperation):
                    exponents_of(graph, value)
        self.assertFalse(is_levels_paper(DOUBLE, levels_paper(SHUTTLE)))

    def test_errors_in_order(self):
        for value in odd_values():
            if not isinstance(value, Graph):
                for call in (exponents, rest, levels_paper, lambda one: level_balance(one, None),
                             lambda one: is_levels_paper(one, None), lambda one: exponents_of(one, None),
                             lambda one: next(levels(one))):
                    with self.assertRaises(InvalidGraph):
                        call(value)
                levels(value)
        for value in odd_numbers():
            with self.assertRaises(InvalidNumber) as caught:
                level_balance(SHUTTLE, value)
            self.assertIs(caught.exception.value, value)

    def test_nothing_gives_access(self):
        same, told = levels_paper(SHUTTLE), exponents(SHUTTLE)
        for meeting in levels_paper(SHUTTLE):
            for part in meeting:
                part.clear()
        exponents(SHUTTLE).clear()
        kept = levels_paper(SHUTTLE)
        exponents_of(SHUTTLE, kept)["a"] = 7
        self.assertEqual((kept, exponents_of(SHUTTLE, kept), exponents(SHUTTLE)), (same, told, told))
        found = levels(SHUTTLE)
        self.assertEqual(next(found), (("back", "go"), ("x", "y", "z")))
        self.assertEqual((next(found), next(found), list(found)), ((("a", "b"), ()), ((), ()), []))


class TestMore(unittest.TestCase):
    def test_more_never_makes_a_growth_less(self):
        source, greater = random.Random(91), 0
        for graph in many_graphs() + many_graphs()[9:]:
            more = more_of(source, graph)
            self.assertLessEqual(set(endless(graph, graph.counters)[0]), set(endless(more, more.counters)[0]))
            self.assertLessEqual(set(free(graph)), set(free(more)))
            before, behind = places(graph), places(more)
            for thing in before:
                self.assertLessEqual(before[thing], behind[thing])
                greater += before[thing] < behind[thing]
        self.assertGreater(greater, 100)

    def test_other_names_change_nothing_but_names(self):
        source = random.Random(92)
        for graph in many_graphs()[:100]:
            names = list(graph.names + graph.counters)
            new = source.sample([one + two for one in "klmn" for two in "abcdefgh"], len(names))
            told = dict(zip(names, new))
            states = dict(zip(graph.states, source.sample("ijklmnop", len(graph.states))))
            other = graph.renamed("states", states)
            other = other.renamed("transitions", {name: told[name] for name in graph.names})
            other = other.renamed("counters", {counter: told[counter] for counter in graph.counters})
            self.assertEqual(free(other), {told[thing]: rank for thing, rank in free(graph).items()})
            self.assertEqual(exponents(other), {told[thing]: level for thing, level in exponents(graph).items()})
            for counters in (graph.counters, graph.counters[:1], ()):
                there = endless(other, tuple(told[counter] for counter in counters))
                here = endless(graph, counters)
                self.assertEqual([set(found) for found in there], [{told[thing] for thing in found} for found in here])


if __name__ == "__main__":
    unittest.main()
