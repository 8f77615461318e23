"""Stage "a machine"."""

import random
import unittest

from loopgrowth.errors import (
    InvalidGraph, InvalidNumber, InvalidOperation, NotEnough, NothingToUndo, UnknownName,
)
from loopgrowth.graphs.graphs import Graph
from loopgrowth.walks.machine import Machine
from samples import DOUBLE, EMPTY, PUMP, SHUTTLE, odd_names, odd_numbers, odd_values, random_graph


class Model:
    """A machine by itself: it keeps every configuration from the beginning on."""

    def __init__(self, graph, size, start):
        self.graph = graph
        self.moments = [(start, {counter: size for counter in graph.counters})]
        self.log = []

    def can(self, name):
        state, loads = self.moments[-1]
        _, source, _, change = self.graph[name]
        return source == state and all(loads[counter] + amount >= 0 for counter, amount in change)

    def take(self, name):
        _, loads = self.moments[-1]
        _, _, target, change = self.graph[name]
        loads = dict(loads)
        for counter, amount in change:
            loads[counter] += amount
        self.moments.append((target, loads))
        self.log.append(name)

    def back(self, many):
        for _ in range(many):
            self.moments.pop()
            self.log.pop()


def picture(machine):
    """All that can be seen of a machine."""
    graph = machine.graph
    return (machine.state, machine.loads, machine.steps, machine.log, machine.possible, str(machine),
            [machine.taken(name) for name in graph.names], [machine.highest(counter) for counter in graph.counters])


class TestMachine(unittest.TestCase):
    def same(self, machine, model):
        graph = model.graph
        state, loads = model.moments[-1]
        self.assertEqual((machine.state, machine.loads), (state, loads))
        self.assertEqual(list(machine.loads), list(graph.counters))
        self.assertEqual((machine.steps, machine.log), (len(model.log), tuple(model.log)))
        can = tuple(name for name in graph.names if model.can(name))
        self.assertEqual(machine.possible, can)
        for name in graph.names:
            self.assertIs(name in machine, name in can)
            self.assertEqual(machine.taken(name), model.log.count(name))
        for counter in graph.counters:
            self.assertEqual(machine.highest(counter), max(one[counter] for _, one in model.moments))
        told = ", ".join(f"{counter} {loads[counter]}" for counter in graph.counters)
        self.assertEqual(str(machine), f"machine at {state}: {told}")
        self.assertEqual(machine.graph, graph)

    def test_example(self):
        machine = Machine(SHUTTLE, 1)
        self.assertEqual([machine.take("a", "go"), machine.loads, machine.possible, machine.take("b", "b"),
                          machine.highest("x"), machine.possible],
                         [2, {"x": 0, "y": 2, "z": 1}, ("b", "back"), 4, 2, ("back",)])
        self.assertEqual(str(Machine(SHUTTLE.without_counter("z"), 3)), "machine at p: x 3, y 3")

    def test_against_a_reckoning(self):
        source = random.Random(12)
        for seed in range(40):
            graph = random_graph(seed)
            size = source.choice((0, 1, 3, 20, 10 ** 30))
            for start in graph.states:
                machine, model = Machine(graph, size, start=start), Model(graph, size, start)
                self.same(machine, model)
                for _ in range(12):
                    if source.random() < 0.2:
                        many = source.randint(0, len(model.log))
                        model.back(many)
                        self.assertEqual(machine.back(many=many), len(model.log))
                    elif machine.possible:
                        name = source.choice(machine.possible)
                        model.take(name)
                        self.assertEqual(machine.take(name), len(model.log))
                    self.same(machine, model)

    def test_start(self):
        self.assertEqual(Machine(SHUTTLE, 0).state, "p")
        self.assertEqual(Machine(SHUTTLE, 0, start=None).state, "p")
        self.assertEqual(Machine(SHUTTLE, 0, start="q").state, "q")
        self.assertEqual(Machine(EMPTY, 5).possible, ())
        self.assertEqual(str(Machine(SHUTTLE, 10 ** 999)).split()[-1], str(10 ** 999))

    def test_errors_of_the_beginning(self):
        for value in odd_values():
            if not isinstance(value, Graph):
                with self.assertRaises(InvalidGraph):
                    Machine(value, -1, start="nowhere")
        for value in odd_numbers():
            with self.assertRaises(InvalidNumber) as caught:
                Machine(SHUTTLE, value, start="nowhere")
            self.assertIs(caught.exception.value, value)
        for value in odd_names("p", "q"):
            if value is not None:
                with self.assertRaises(UnknownName) as caught:
                    Machine(SHUTTLE, 1, start=value)
                self.assertIs(caught.exception.name, value)

    def test_take_takes_all_or_none(self):
        machine = Machine(SHUTTLE, 2)
        machine.take("a")
        before = picture(machine)
        for names, error, key in [
                (("a", "go", "zz", "back"), UnknownName, "zz"), (("b", None), UnknownName, None),
                (("a", "a"), NotEnough, "x"), (("a", "b"), InvalidOperation, None),
                (("go", "go"), InvalidOperation, None), (("go", "back", "go", "back", "go", "back"), NotEnough, "z")]:
            for call in (machine.take_all, lambda told: machine.take(*told)):
                with self.assertRaises(error) as caught:
                    call(names)
                if error is UnknownName:
                    self.assertEqual(caught.exception.name, key)
                if error is NotEnough:
                    self.assertEqual(caught.exception.counter, key)
                self.assertEqual(picture(machine), before)
        self.assertEqual(machine.take(), 1)
        self.assertEqual(machine.take_all(()), 1)
        self.assertEqual(machine.take_all(("a", "go", "b", "back")), 5)

    def test_the_least_counter_is_named(self):
        graph = Graph(("x", "y", "z"), ("a", "p", "p", (("x", 1), ("y", -2), ("z", -1))))
        for size, counter in [(0, "y"), (1, "y")]:
            with self.assertRaises(NotEnough) as caught:
                Machine(graph, size).take("a")
            self.assertEqual(caught.exception.counter, counter)
        machine = Machine(graph, 5)
        with self.assertRaises(NotEnough) as caught:
            machine.take("a", "a", "a")
        self.assertEqual((caught.exception.counter, machine.steps), ("y", 0))

    def test_names_that_are_none(self):
        machine = Machine(SHUTTLE, 2)
        for value in odd_values():
            if not isinstance(value, tuple):
                with self.assertRaises(InvalidOperation):
                    machine.take_all(value)
        for value in odd_names(*SHUTTLE.names):
            self.assertIs(value in machine, False)
            for call in (machine.take, lambda one: machine.take("b", one), lambda one: machine.take_all(("a", one)),
                         machine.taken):
                with self.assertRaises(UnknownName) as caught:
                    call(value)
                self.assertIs(caught.exception.name, value)
        for value in odd_names(*SHUTTLE.counters):
            with self.assertRaises(UnknownName) as caught:
                machine.highest(value)
            self.assertIs(caught.exception.name, value)
        self.assertEqual(machine, Machine(SHUTTLE, 2))

    def test_walk_takes_each_when_it_is_asked_for(self):
        machine = Machine(SHUTTLE, 1)
        told = machine.walk(("a", "go", "b"))
        self.assertEqual(machine.steps, 0)
        self.assertEqual(next(told), {"x": 0, "y": 2, "z": 1})
        self.assertEqual(machine.log, ("a",))
        loads = next(told)
        loads["x"] = 99
        self.assertEqual(machine.loads, {"x": 0, "y": 2, "z": 1})
        machine.take("b")
        self.assertEqual(list(told), [{"x": 2, "y": 0, "z": 1}])
        self.assertEqual(machine.log, ("a", "go", "b", "b"))
        self.assertEqual(list(machine.walk(())), [])

    def test_walk_keeps_what_was_taken(self):
        for names, error in [(("a", "a", "go"), NotEnough), (("a", "b"), InvalidOperation), (("a", "zz"), UnknownName),
                             (("a", []), UnknownName)]:
            machine = Machine(SHUTTLE, 1)
            told = machine.walk(names)
            next(told)
            with self.assertRaises(error):
                next(told)
            self.assertEqual(machine.log, ("a",))
        for value in odd_values():
            if not isinstance(value, tuple):
                late = Machine(SHUTTLE, 1).walk(value)
                with self.assertRaises(InvalidOperation):
                    next(late)
        late = Machine(SHUTTLE, 1).walk((None, "a"))
        with self.assertRaises(UnknownName):
            next(late)

    def test_back(self):
        machine = Machine(SHUTTLE, 1)
        machine.take("a", "go", "b", "back")
        self.assertEqual(machine.back(), 3)
        self.assertEqual((machine.state, machine.loads), ("q", {"x": 1, "y": 1, "z": 1}))
        self.assertEqual(machine.back(many=0), 3)
        self.assertEqual(machine.back(many=3), 0)
        self.assertEqual(machine, Machine(SHUTTLE, 1))
        machine.take("a")
        for many in (2, 10 ** 999):
            with self.assertRaises(NothingToUndo) as caught:
                machine.back(many=many)
            self.assertEqual((caught.exception.many, machine.log), (many, ("a",)))
        for value in odd_numbers():
            with self.assertRaises(InvalidNumber) as caught:
                machine.back(many=value)
            self.assertIs(caught.exception.value, value)

    def test_highest_looks_at_the_log_alone(self):
        machine = Machine(PUMP, 3)
        machine.take("a", "a", "go", "b")
        self.assertEqual((machine.highest("u"), machine.highest("z")), (5, 3))
        machine.back(many=3)
        self.assertEqual(machine.highest("u"), 4)
        machine.back()
        self.assertEqual(machine.highest("u"), 3)


class TestTrials(unittest.TestCase):
    def test_trial(self):
        machine = Machine(SHUTTLE, 2)
        machine.take("a")
        before = picture(machine)
        with machine.trial() as same:
            self.assertIs(same, machine)
            machine.take("a", "go")
            inside = picture(machine)
            with same.trial() as again:
                self.assertIs(again, machine)
                again.back(many=3)
                again.take("go", "b")
            self.assertEqual(picture(machine), inside)
        self.assertEqual(picture(machine), before)

    def test_trial_begins_with_its_block(self):
        machine = Machine(SHUTTLE, 2)
        trial = machine.trial()
        machine.take("a")
        before = picture(machine)
        with trial:
            machine.take("a")
            with trial:
                machine.take("go")
            self.assertEqual(machine.log, ("a", "a"))
        self.assertEqual(picture(machine), before)
        machine.take("a")
        with trial:
            machine.back(many=2)
        self.assertEqual(machine.log, ("a", "a"))

    def test_trial_ends_rightly_by_errors(self):
        machine = Machine(SHUTTLE, 2)
        machine.take("a")
        before = picture(machine)
        with self.assertRaises(NotEnough):
            with machine.trial():
                machine.take("a")
                machine.take("a")
        self.assertEqual(picture(machine), before)
        with self.assertRaises(ZeroDivisionError):
            with machine.trial():
                machine.back()
                with machine.trial():
                    list(machine.walk(("go", "b")))
                    raise ZeroDivisionError
        self.assertEqual(picture(machine), before)

    def test_attempt(self):
        machine = Machine(SHUTTLE, 2)
        machine.take("a")
        before = picture(machine)

        def action(same):
            self.assertIs(same, machine)
            self.assertEqual(same.attempt(lambda one: one.take("a", "go")), 3)
            return same.take("go", "b")
        self.assertEqual(machine.attempt(action), 3)
        self.assertEqual(picture(machine), before)
        with self.assertRaises(InvalidOperation):
            machine.attempt(lambda one: one.take("a") and one.take("b"))
        self.assertEqual(picture(machine), before)
        self.assertIsNone(machine.attempt(lambda one: None))

    def test_twins_go_their_own_ways(self):
        machine = Machine(SHUTTLE, 2, start="q")
        machine.take("b", "back")
        other = machine.twin()
        self.assertEqual(machine, other)
        self.assertEqual(picture(machine), picture(other))
        before = picture(machine)
        other.take("a")
        self.assertEqual(picture(machine), before)
        self.assertNotEqual(machine, other)
        machine.back(many=2)
        self.assertEqual((other.log, machine.log), (("b", "back", "a"), ()))
        self.assertEqual(other.back(many=3), 0)
        self.assertEqual((other.state, other.highest("x")), ("q", 2))
        with machine.trial():
            inner = machine.twin()
            inner.take("back")
            machine.take("b")
        self.assertEqual((inner.log, machine.log), (("back",), ()))


class TestEquality(unittest.TestCase):
    def test_equality(self):
        machines = [Machine(SHUTTLE, 1), Machine(SHUTTLE, 2), Machine(SHUTTLE, 1, start="q"), Machine(DOUBLE, 1),
                    Machine(PUMP, 1)]
        walked = Machine(SHUTTLE, 1)
        walked.take("go", "back")
        machines.append(walked)
        for one, machine in enumerate(machines):
            for two, other in enumerate(machines):
                self.assertEqual(machine == other, one == two)
                self.assertEqual(machine != other, one != two)
            for value in odd_values():
                self.assertFalse(machine == value)
        same = Machine(Graph(("z", "y", "x"), *reversed(SHUTTLE.transitions)), 1, start="p")
        self.assertEqual(same, machines[0])
        walked.back(many=2)
        self.assertEqual(walked, machines[0])

    def test_equal_loads_by_another_log(self):
        graph = Graph(("x",), ("a", "p", "p", ()), ("b", "p", "p", ()))
        one, two = Machine(graph, 1), Machine(graph, 1)
        one.take("a")
        two.take("b")
        self.assertEqual(one.loads, two.loads)
        self.assertNotEqual(one, two)

    def test_what_is_returned_gives_no_access(self):
        machine = Machine(SHUTTLE, 1)
        machine.loads["x"] = 7
        self.assertEqual(machine.loads["x"], 1)
        for name in ("graph", "state", "loads", "steps", "log", "possible"):
            with self.assertRaises(AttributeError):
                setattr(machine, name, None)


if __name__ == "__main__":
    unittest.main()
