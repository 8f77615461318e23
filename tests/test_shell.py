"""Point 20.1, stage "a shell"."""

import random
import unittest

from loopgrowth.bounds.bounds import bound
from loopgrowth.bounds.force import greatest
from loopgrowth.bounds.growing import reaches, scale
from loopgrowth.errors import (InvalidCommand, InvalidEdit, InvalidGraph, InvalidOperation, NothingToUndo, TooMany,
                               UnknownName)
from loopgrowth.levels.growths import growths, steps_growth
from loopgrowth.live.workshop import Workshop
from loopgrowth.text.formats import graph_text, growth_text, read_recipe, table_text
from loopgrowth.text.shell import Shell
from samples import CUBE, DOUBLE, EMPTY, PUMP, SHUTTLE, SQUARE, graph_of, loop_graph, odd_values
from sums import need_and_goal

LOOP = graph_of("x", "a p p: x-1")
DRAFT = ("new m", "counter x", "state p", "line a p p x-1")


def lines_of(name, graph):
    """The commands that lay a graph."""
    text = graph_text(graph).split("\n")
    return (f"new {name}", *[f"counter {one}" for one in graph.counters], *[f"state {one}" for one in graph.states],
            *[f"line {line}" for line in text[2:]], "done")


def shell_with(*graphs):
    """A shell whose workshop has graphs under the names ga, gb, .., the last one of them present."""
    shell = Shell()
    for letter, graph in zip("abcdefghij", graphs):
        list(shell.do_all(lines_of("g" + letter, graph)))
    return shell


def seen(shell):
    shop = shell.workshop()
    return (shell.present, shell.log, len(shell), shop.names, shop.log, shop.watches, list(shop.news()),
            [shop[name] for name in shop])


class TestShell(unittest.TestCase):
    def test_examples(self):
        shell = Shell()
        self.assertEqual(list(shell.do_all(("new m", "counter x", "state p", "line a p p x-1", "done", "growth a",
                                            "watch a", "add b p p x+1", "steps")))[4:],
                         ["ok", "n", "ok", "m a: n to free 0", "free 0"])

    def test_a_new_shell(self):
        shell = Shell()
        self.assertEqual((shell.present, shell.log, len(shell)), (None, (), 0))
        self.assertEqual((shell.workshop(), shell.do("names")), (Workshop(), "none"))
        for value in odd_values() + [Shell(), Workshop, [Workshop()]]:
            if value is not None:
                with self.assertRaises(InvalidOperation):
                    Shell(value)
        with self.assertRaises(TypeError):
            iter(shell)

    def test_drafts(self):
        for graph in [SHUTTLE, DOUBLE, PUMP, EMPTY, CUBE] + [loop_graph(seed) for seed in range(20)]:
            shell = Shell()
            answers = list(shell.do_all(lines_of("m", graph)))
            self.assertEqual(answers, ["ok"] * len(answers))
            self.assertEqual((shell.present, shell.workshop().names, shell.workshop()["m"]), ("m", ("m",), graph))
            self.assertEqual(shell.workshop().log, ((("put", "m", graph),),))
            self.assertEqual((shell.do("show"), shell.do("table")), (graph_text(graph), table_text(graph)))
        # In any order, and repeated; a draft is not looked at before it is done.
        shell = Shell()
        list(shell.do_all(("new m", "line a p q x-1", "counter x", "state q", "counter x", "line b q p", "state q",
                           "counter aa", "done")))
        self.assertEqual(shell.workshop()["m"], graph_of("x aa", "a p q: x-1", "b q p:"))

    def test_a_draft_that_is_refused_stays(self):
        shell = shell_with(LOOP)
        for lines, error in ((("new m",), InvalidGraph), (("state p", "line a p p x-1"), InvalidGraph),
                             (("counter x", "line b p q"), InvalidGraph), (("line c q p", "line c q p"), InvalidGraph)):
            for line in lines:
                self.assertEqual(shell.do(line), "ok")
            before = seen(shell)
            with self.assertRaises(error):
                shell.do("done")
            self.assertEqual(seen(shell), before)
            with self.assertRaises(InvalidOperation):
                shell.do("new n")
        self.assertEqual([shell.do("forget"), shell.present, shell.do("names")], ["ok", "ga", "ga"])
        with self.assertRaises(InvalidOperation):
            shell.do("done")
        # The graph first, then the workshop; what was refused can be done later.
        shell.do("new ga")
        with self.assertRaises(InvalidGraph):
            shell.do("done")
        list(shell.do_all(("counter y", "state p")))
        with self.assertRaises(InvalidEdit):
            shell.do("done")
        shell.do("drop ga")
        self.assertEqual([shell.do("done"), shell.present, shell.do("show")], ["ok", "ga", "counters y\nstates p"])

    def test_twenty_graphs_and_one_more(self):
        shop = Workshop()
        shop.make(*[("put", "g" + letter, EMPTY) for letter in "abcdefghijklmnopqrst"])
        shell = Shell(shop)
        list(shell.do_all(DRAFT))
        with self.assertRaises(TooMany):
            shell.do("done")
        self.assertEqual([shell.do("drop ga"), shell.do("done"), shell.present, len(shop)], ["ok", "ok", "m", 20])

    def test_open_and_present(self):
        shell = shell_with(SHUTTLE, PUMP)
        self.assertEqual([shell.present, shell.do("open ga"), shell.present], ["gb", "ok", "ga"])
        for line in ("open gc", "open a"):
            with self.assertRaises(UnknownName) as caught:
                shell.do(line)
            self.assertEqual(caught.exception.name, line[5:])
        self.assertEqual(shell.present, "ga")
        # What was opened last is present again when it is there again.
        self.assertEqual([shell.do("drop gb"), shell.present], ["ok", "ga"])
        self.assertEqual([shell.do("drop ga"), shell.present], ["ok", None])
        self.assertEqual([shell.do("undo"), shell.present, shell.do("redo"), shell.present], ["ok", "ga", "ok", None])
        self.assertEqual([shell.do("undo"), shell.do("undo"), shell.do("open gb"), shell.do("undo"), shell.present],
                         ["ok", "ok", "ok", "ok", None])
        self.assertEqual([shell.do("redo"), shell.present, shell.do("names")], ["ok", "gb", "ga gb"])
        self.assertEqual([shell.do("undo"), shell.do("open ga"), shell.do("redo"), shell.present],
                         ["ok", "ok", "ok", "ga"])
        # A graph that is done is opened; taking that back does not open another one.
        shell = shell_with(SHUTTLE)
        list(shell.do_all(DRAFT + ("done",)))
        self.assertEqual([shell.present, shell.do("undo"), shell.present, shell.do("redo"), shell.present],
                         ["m", "ok", None, "ok", "m"])
        self.assertEqual([shell.do("drop ga"), shell.present, shell.do("drop m"), shell.present],
                         ["ok", "m", "ok", None])

    def test_changes_and_news(self):
        shell = shell_with(SHUTTLE, PUMP)
        list(shell.do_all(("open ga", "watch a", "watch x", "watch nosuch", "open gb", "watch b")))
        self.assertEqual(shell.do("cut b"), "gb b: free 1 to -")
        self.assertEqual(shell.do("undo"), "gb b: - to free 1")
        self.assertEqual(shell.do("add c t t u+1"), "gb b: free 1 to free 0")
        self.assertEqual(shell.do("add d t t"), "ok")
        self.assertEqual(shell.do("open ga"), "ok")
        self.assertEqual([shell.do("cut b"), shell.do("add b q q x+2 y-1")],
                         ["ga a: n^2 to n", "ga a: n to beyond, ga x: n to beyond"])
        self.assertEqual(shell.do("drop ga"), "ga a: beyond to -, ga x: beyond to -")
        self.assertEqual([shell.do("undo"), shell.do("undo"), shell.do("redo")],
                         ["ga a: - to beyond, ga x: - to beyond", "ga a: beyond to n, ga x: beyond to n",
                          "ga a: n to beyond, ga x: n to beyond"])
        self.assertEqual([shell.do("unwatch x"), shell.do("undo"), shell.do("unwatch a"), shell.do("redo")],
                         ["ok", "ga a: beyond to n", "ok", "ok"])
        self.assertEqual(shell.workshop().watches, (("ga", "nosuch"), ("gb", "b")))
        self.assertEqual(shell.workshop().log[2:5], ((("add", "gb", ("c", "t", "t", (("u", 1),))),),
                                                     (("add", "gb", ("d", "t", "t", ())),), (("cut", "ga", "b"),)))

    def test_errors_of_what_is_called(self):
        shell = shell_with(SHUTTLE, PUMP)
        shell.do("open ga")
        for line, error in (("drop m", InvalidEdit), ("add a p p", InvalidEdit), ("cut c", InvalidEdit),
                            ("cut x", InvalidEdit), ("cut go", InvalidGraph), ("add c p r", InvalidGraph),
                            ("add x p p", InvalidGraph), ("add c p p u-1", InvalidGraph), ("redo", NothingToUndo),
                            ("unwatch a", InvalidOperation), ("growth c", UnknownName), ("bound p", UnknownName),
                            ("reach 3 u", UnknownName), ("force 3 u", UnknownName), ("force 300 a", TooMany),
                            ("open m", UnknownName)):
            before = seen(shell)
            with self.assertRaises(error, msg=line) as caught:
                shell.do(line)
            self.assertIs(type(caught.exception), error)
            self.assertEqual(seen(shell), before)
            if error is UnknownName:
                self.assertEqual(caught.exception.name, line.split(" ")[-1])
        with self.assertRaises(NothingToUndo) as caught:
            Shell().do("undo")
        self.assertEqual(caught.exception.many, 1)

    def test_questions(self):
        for graph in [SHUTTLE, DOUBLE, PUMP, SQUARE, CUBE, EMPTY] + [loop_graph(seed, most=8) for seed in range(12)]:
            shell = shell_with(graph)
            told = growths(graph)
            self.assertEqual((shell.do("show"), shell.do("table"), shell.do("steps")),
                             (graph_text(graph), table_text(graph), growth_text(steps_growth(graph))))
            for thing in told:
                self.assertEqual(shell.do(f"growth {thing}"), growth_text(told[thing]))
                answer = shell.do(f"bound {thing}")
                self.assertEqual(answer == "none", told[thing][0] != "power")
                if answer != "none":
                    self.assertEqual(answer, str(bound(graph, thing)))
                for goal in (0, 1, 1000, 10 ** 40):
                    size, _, text = shell.do(f"reach {goal} {thing}").partition(" ")
                    recipe = read_recipe(graph, text)
                    self.assertTrue(reaches(graph, thing, goal, int(size), recipe))
                    need, most = need_and_goal(graph, thing, int(size), recipe)
                    self.assertTrue(need <= int(size) and most >= goal)
                for size in range(3):
                    try:
                        number = greatest(graph, thing, size)
                    except TooMany:
                        with self.assertRaises(TooMany):
                            shell.do(f"force {size} {thing}")
                        continue
                    self.assertEqual(shell.do(f"force {size} {thing}"), "none" if number is None else str(number))
            self.assertEqual(shell.workshop()["ga"], graph)

    def test_bound_and_reach_of_each_growth(self):
        shell = shell_with(SHUTTLE, DOUBLE, PUMP)
        self.assertEqual([shell.do("bound a"), shell.do("bound u"), shell.do("bound go") == "none"],
                         ["none", "none", False])
        size, _, text = shell.do("reach 1" + "0" * 40 + " b").partition(" ")
        self.assertTrue(int(size) <= scale(PUMP) and read_recipe(PUMP, text).taken("b") >= 10 ** 40)
        shell.do("open gb")
        self.assertEqual([shell.do("bound a"), shell.do("bound x"), shell.do("steps")], ["none", "none", "beyond"])
        size, _, text = shell.do("reach 1000 x").partition(" ")
        self.assertTrue(reaches(DOUBLE, "x", 1000, int(size), read_recipe(DOUBLE, text)))
        shell.do("open ga")
        self.assertEqual([shell.do("bound a"), shell.do("steps"), shell.do("force 1 b"), shell.do("force 0 x")],
                         [str(bound(SHUTTLE, "a")), "n^2", "4", "0"])
        self.assertIn("n^2", shell.do("bound a"))

    def test_names_and_forced_numbers_that_are_none(self):
        shell = shell_with(graph_of("x y", "a p p: x-1 y+1", "b p p: x+1 y-1"))
        self.assertEqual([shell.do("force 1 a"), shell.do("force 0 a"), shell.do("force 1 x"), shell.do("steps")],
                         ["none", "0", "2", "free 0"])
        shell = shell_with(EMPTY, LOOP, PUMP)
        self.assertEqual([shell.do("names"), shell.do("drop gb"), shell.do("names"), shell.do("drop ga"),
                          shell.do("drop gc"), shell.do("names")], ["ga gb gc", "ok", "ga gc", "ok", "ok", "none"])

    def test_lines_that_are_no_commands(self):
        shell = shell_with(SHUTTLE)
        shell.do("new m")
        before = seen(shell)
        lines = ["", " ", "new", "new ", "new M", "new abcdefghi", "new m n", "new  m", "new m ", " new m", "new m\n",
                 "new\tm", "new 1", "New m", "counter", "counter x y", "counter X", "state", "state p q", "line",
                 "line ", "line a", "line a p", "line a p q x", "line a p q x-0", "line a p q x-10",
                 "line a p q x-1 x-1",
                 "line a p q y-1 x-1", "line a p q  x-1", "line a p q x-1 ", "line a P q", "line a p q x1",
                 "line  a p q",
                 "line a p q -1", "done m", "done ", "forget m", "forget ", "open", "open ", "open m n", "open 1",
                 "drop", "drop m n", "drop M", "add", "add a", "add a p", "add c p p x+10", "cut", "cut a b", "cut A",
                 "undo 1", "undo ", "redo 1", "watch", "watch a b", "watch A", "unwatch", "unwatch 1", "show a",
                 "show ",
                 "table a", "growth", "growth a b", "growth A", "growth ", "steps a", "bound", "bound a b", "bound 1",
                 "reach", "reach a", "reach 1", "reach a 1", "reach 01 a", "reach -1 a", "reach +1 a", "reach 1 a b",
                 "reach 1" + "0" * 39 + "1 a", "reach 1" + "0" * 41 + " a", "reach 1  a", "reach 1.0 a", "reach 1_0 a",
                 "reach 1 A", "reach " + "9" * 5000 + " a", "force", "force a", "force 1", "force 1001 a", "force 01 a",
                 "force -1 a", "force 1 a b", "force 9999 a", "force 1 1", "names a", "names ", "nosuch", "do names",
                 "make", "quit", "Names", "names\n", "growth\na", "present", "log", "show\n"]
        self.assertTrue(all(isinstance(line, str) for line in lines))
        for line in lines + [one for one in odd_values() if one != "nosuchname"] + [("names",), ["names"], b"names"]:
            with self.assertRaises(InvalidCommand, msg=line):
                shell.do(line)
        self.assertEqual(seen(shell), before)
        # Just within the limits.
        for line in ("force 1000 nosuch", "force 0 nosuch", "reach 0 nosuch", "reach 1" + "0" * 40 + " nosuch"):
            with self.assertRaises(UnknownName):
                shell.do(line)

    def test_drafts_and_present_graphs_that_are_missing(self):
        every = {"new": "new m", "counter": "counter x", "state": "state p", "line": "line c p p", "done": "done",
                 "forget": "forget", "open": "open nosuch", "drop": "drop nosuch", "add": "add c p p", "cut": "cut c",
                 "undo": "undo", "redo": "redo", "watch": "watch a", "unwatch": "unwatch a", "show": "show",
                 "table": "table", "growth": "growth a", "steps": "steps", "bound": "bound a", "reach": "reach 1 a",
                 "force": "force 1 a", "names": "names"}
        of_draft, always = ("counter", "state", "line", "done", "forget"), ("open", "drop", "undo", "redo", "names")
        for word, line in every.items():
            shell = Shell()
            if word in of_draft or word not in always + ("new",):
                with self.assertRaises(InvalidOperation, msg=line) as caught:
                    shell.do(line)
                self.assertIs(type(caught.exception), InvalidOperation)
            self.assertEqual(shell.log, ())
            # A draft does not make a present graph, and a present graph no draft.
            shell = Shell()
            shell.do("new n")
            if word == "new" or word not in of_draft + always:
                with self.assertRaises(InvalidOperation, msg=line):
                    shell.do(line)
            shell = shell_with(SHUTTLE)
            if word in of_draft:
                with self.assertRaises(InvalidOperation, msg=line):
                    shell.do(line)
        # What is no command comes first, then what is missing, then what is called.
        for line in ("growth", "growth A", "reach 01 a", "line a", "counter 1", "watch"):
            with self.assertRaises(InvalidCommand):
                Shell().do(line)
        with self.assertRaises(InvalidOperation):
            Shell().do("growth nosuch")
        for line, error in (("open m", UnknownName), ("drop m", InvalidEdit), ("undo", NothingToUndo),
                            ("redo", NothingToUndo)):
            with self.assertRaises(error):
                Shell().do(line)

    def test_logs(self):
        shell = Shell()
        lines = DRAFT + ("done", "growth a", "watch a", "names", "undo", "redo", "add b p p x+1")
        for line in lines:
            shell.do(line)
            with self.assertRaises((InvalidCommand, InvalidOperation, UnknownName)):
                shell.do("growth nosuch")
            with self.assertRaises(InvalidCommand):
                shell.do("nosuch")
        self.assertEqual((shell.log, len(shell)), (lines, len(lines)))
        self.assertIs(type(shell.log), tuple)

    def random_line(self, source):
        thing = source.choice(("a", "b", "x", "ta", "tb", "c"))
        return source.choice((
            "new m", "new n", "counter x", "counter u", "state p", "line a p p x-1", "line b p p x+1", "line c p q",
            "line ta q p x-1", "done", "done", "forget", "open m", "open n", "drop m", "drop n", "add c p p x-1 ",
            "add c p p x-1", "add tb p p", "cut " + thing, "undo", "redo", "undo", "watch " + thing, "unwatch " + thing,
            "show", "table", "growth " + thing, "steps", "bound " + thing, "reach 100 " + thing, "force 2 " + thing,
            "names", "nosuch"))

    def test_a_log_done_again(self):
        source = random.Random(201)
        errors = (InvalidCommand, InvalidOperation, InvalidEdit, InvalidGraph, NothingToUndo, UnknownName, TooMany)
        for _ in range(30):
            shell, answers = Shell(), []
            for _ in range(60):
                line = self.random_line(source)
                before = seen(shell)
                try:
                    answers.append(shell.do(line))
                except errors:
                    self.assertEqual(seen(shell), before)
            self.assertEqual(len(shell), len(answers))
            other = Shell(Workshop())
            self.assertEqual(list(other.do_all(shell.log)), answers)
            self.assertEqual((other.workshop(), other.present, other.log), (shell.workshop(), shell.present, shell.log))
            self.assertEqual(seen(other), seen(shell))

    def test_do_all_one_answer_at_a_time(self):
        shell = Shell()
        answers = shell.do_all(DRAFT + ("done", "growth nosuch", "names"))
        self.assertEqual(shell.log, ())
        for many in range(1, 6):
            self.assertEqual((next(answers), len(shell)), ("ok", many))
        self.assertEqual(shell.present, "m")
        with self.assertRaises(UnknownName):
            next(answers)
        self.assertEqual((len(shell), list(answers)), (5, []))
        self.assertEqual([list(shell.do_all(())), len(shell)], [[], 5])
        for value in odd_values() + [["names"], "names", {"names": 1}, Workshop()]:
            if not isinstance(value, tuple):
                answers = shell.do_all(value)
                with self.assertRaises(InvalidCommand):
                    next(answers)
        for value in ((1,), ("names", None), (None,)):
            with self.assertRaises(InvalidCommand):
                list(shell.do_all(value))
        self.assertEqual(shell.log[5:], ("names",))

    def test_two_shells_on_one_workshop(self):
        shop = Workshop()
        one, two = Shell(shop), Shell(shop)
        list(one.do_all(DRAFT + ("done", "watch a")))
        self.assertEqual([two.present, two.do("names"), two.do("open m"), two.do("growth a")], [None, "m", "ok", "n"])
        self.assertEqual([one.do("add b p p x+1"), two.do("growth a"), two.do("undo")],
                         ["m a: n to free 0", "free 0", "m a: free 0 to n"])
        self.assertEqual([two.do("drop m"), one.present, two.present], ["m a: n to -", None, None])
        shop.make(("put", "m", PUMP))
        self.assertEqual([one.present, one.do("show"), shop.names], ["m", graph_text(PUMP), ("m",)])
        # A draft belongs to one shell alone.
        one.do("new n")
        with self.assertRaises(InvalidOperation):
            two.do("forget")
        self.assertEqual([len(one), len(two)], [9, 6])

    def test_the_workshop_of_a_shell(self):
        shop = Workshop()
        shell = Shell(shop)
        list(shell.do_all(DRAFT + ("done",)))
        self.assertEqual([shop.names, shop["m"] == LOOP], [("m",), True])
        twin = shell.workshop()
        self.assertTrue(isinstance(twin, Workshop) and twin == shop and twin is not shop)
        twin.make(("drop", "m"))
        twin.undo(many=2)
        self.assertEqual([shop.names, shell.present, shop.log], [("m",), "m", ((("put", "m", LOOP),),)])
        own = Shell()
        list(own.do_all(DRAFT + ("done",)))
        own.workshop().make(("drop", "m"))
        self.assertEqual(own.do("names"), "m")
        for name in ("present", "log"):
            with self.assertRaises(AttributeError):
                setattr(own, name, None)

    def test_an_empty_workshop_that_is_given_is_used(self):
        shop = Workshop()
        list(Shell(shop).do_all(DRAFT + ("done",)))
        self.assertEqual(shop.names, ("m",))


if __name__ == "__main__":
    unittest.main()
