"""Points 17.1 to 17.3, stage "programs of loops"."""

import random
import re
import unittest

from loopgrowth.errors import InvalidGraph, InvalidOperation, ParseError
from loopgrowth.graphs.graphs import Graph
from loopgrowth.language.programs import compiled, is_program, listing, program_text, read_program
from loopgrowth.levels.growths import growths
from samples import nested, odd_values

TEXT = "go: -\nrepeat\n  a: x - 1, y + 1\nend\non: -\nrepeat\n  b: x + 1, y - 1\nend\nback: z - 1"


def step(name, *change):
    return ("step", name, tuple((word[0], int(word[1:])) for word in change))


def repeat(*body):
    return ("repeat", body)


def choose(*bodies):
    return ("choose", *bodies)


GO, ON, BACK, OUT = step("go"), step("on", "x-1"), step("back", "y+2", "z-9"), step("out", "x+1", "y-1")
# Programs, and their graphs as the test lays them: lines of a name, a source and a target.
LAID = [
    ((GO,), "go a a"),
    ((GO, ON), "go a b, on b a"),
    ((GO, repeat(ON), BACK), "go a b, on b b, back b a"),
    ((GO, repeat(ON, BACK), OUT), "go a b, on b c, back c b, out b a"),
    ((choose((GO,), (ON,)),), "go a a, on a a"),
    ((choose((GO, ON), (BACK,)), OUT), "go a c, on c b, back a b, out b a"),
    ((choose((GO,), (ON, BACK)),), "go a a, on a b, back b a"),
    ((GO, choose((ON,), (BACK, OUT)), step("c"), step("d")), "go a b, on b c, back b d, out d c, c c e, d e a"),
    ((GO, repeat(choose((ON,), (BACK,))), OUT), "go a b, on b b, back b b, out b a"),
    ((GO, repeat(ON, repeat(BACK), OUT), step("c")), "go a b, on b c, back c c, out c b, c b a"),
    ((GO, repeat(choose((ON, step("c")), (BACK, OUT)), step("d")), step("e")),
     "go a b, on b d, c d c, back b e, out e c, d c b, e b a"),
    ((step("a"), repeat(step("b"), repeat(step("c"), repeat(step("d")), step("e")), step("f")), step("g")),
     "a a b, b b c, c c d, d d d, e d c, f c b, g b a"),
    ((choose((choose((choose((GO,), (ON,)),), (BACK,)),), (OUT,)), step("c")),
     "go a b, on a b, back a b, out a b, c b a"),
]


def graph_by(lines, program):
    """The graph with these lines, with the changes of the steps of a program."""
    changes = dict(steps_of(program))
    counters = {counter for change in changes.values() for counter, _ in change}
    letters = [letter for letter in "abcdefghijklmnopqrstuvwxyz" if letter not in changes]
    rows = [(*line.split(), changes[line.split()[0]]) for line in lines.split(", ")]
    return Graph(tuple(counters) or (letters[0],), *rows)


def steps_of(body):
    for statement in body:
        if statement[0] == "step":
            yield statement[1:]
        else:
            for inner in statement[1:]:
                yield from steps_of(inner)


def deep(statement):
    if statement[0] == "step":
        return 1
    return 1 + max(deep(one) for body in statement[1:] for one in body)


class Maker:
    """Programs made at random from a fixed seed."""

    def __init__(self, seed):
        self.source = random.Random(seed)
        self.many = 0

    def step(self):
        self.many += 1
        name = "s" + "abcdefghijklmnopqrstuvwxyz"[self.many % 26] + "klmnopq"[self.many // 26 % 7]
        counters = sorted(self.source.sample("vwxyz", self.source.randint(0, 3)))
        return ("step", name, tuple((one, self.source.choice((-9, -2, -1, 1, 2, 9))) for one in counters))

    def body(self, left):
        told = []
        many = self.source.randint(1, 3)
        for at in range(many):
            if told and left > 1 and at < many and self.source.random() < 0.4:
                told.append(("repeat", self.body(left - 1)))
            if left > 1 and self.source.random() < 0.25:
                told.append(("choose", *[self.body(left - 1) for _ in range(self.source.randint(2, 4))]))
            else:
                told.append(self.step())
        return tuple(told)


def some_programs():
    return [program for program, _ in LAID] + [Maker(seed).body(seed % 4 + 1) for seed in range(120)]


def laid(program):
    """The transitions of the graph of a program, with numbers for the states, and how many states there are."""
    rows, states = [], [0]

    def lay(body, begin, end):
        if body and body[0][0] == "repeat":
            lay(body[0][1], begin, begin)
            lay(body[1:], begin, end)
        elif body:
            there = end
            if body[1:]:
                there = len(states)
                states.append(there)
            if body[0][0] == "step":
                rows.append((body[0][1], begin, there))
            for inner in body[0][1:] if body[0][0] == "choose" else ():
                lay(inner, begin, there)
            lay(body[1:], there, end)

    lay(program, 0, 0)
    return rows, len(states)


def words_of(body, most):
    """The rows of steps with at most so many steps that a body can walk."""
    told = {()}
    for statement in body:
        if statement[0] == "step":
            more = {(statement[1],)}
        elif statement[0] == "choose":
            more = set().union(*[words_of(inner, most) for inner in statement[1:]])
        else:
            more = rounds_of(words_of(statement[1], most), most)
        told = {one + two for one in told for two in more if len(one) + len(two) <= most}
    return told


def rounds_of(words, most):
    """Rows of any number of these rows, also of none."""
    told, new = {()}, {()}
    while new:
        new = {one + two for one in new for two in words if len(one) + len(two) <= most} - told
        told |= new
    return told


def closed_walks(graph, most):
    told, ends = {()}, {((), "a")}
    for _ in range(most):
        ends = {(walk + (name,), graph[name][2]) for walk, state in ends for name in graph.leaving(state)}
        told |= {walk for walk, state in ends if state == "a"}
    return told


LINE = re.compile(r"[a-z]{1,8}: (-|[a-z]{1,8} [+-] [1-9](, [a-z]{1,8} [+-] [1-9])*)")


def is_text(text):
    """Whether a text is one of a program: lines and their indents, looked at one by one."""
    steps, counters, stack, ahead = [], set(), [], [None]
    for line in text.split("\n"):
        indent = len(line) - len(line.lstrip(" "))
        word = line[indent:]
        closing = word in ("or", "end")
        if indent != 2 * (len(stack) - closing) or indent < 0:
            return False
        if closing:
            # A body is not empty, and does not end with a repeat.
            if ahead[-1] in (None, "repeat") or word == "or" and stack[-1][0] == "repeat":
                return False
            if word == "or":
                stack[-1][1] += 1
                ahead[-1] = None
                continue
            kind, bodies = stack.pop()
            ahead.pop()
            if kind == "choose" and not 2 <= bodies <= 4:
                return False
            ahead[-1] = kind
        elif word in ("repeat", "choose"):
            if word == "repeat" and ahead[-1] in (None, "repeat") or len(stack) == 3:
                return False
            stack.append([word, 1])
            ahead.append(None)
        else:
            if not LINE.fullmatch(word):
                return False
            name, _, told = word.partition(": ")
            change = [part.split(" ")[0] for part in told.split(", ")] if told != "-" else []
            if change != sorted(set(change)):
                return False
            steps.append(name)
            counters |= set(change)
            ahead[-1] = "step"
    return not stack and ahead[-1] not in (None, "repeat") and len(set(steps)) == len(steps) \
        and not counters & set(steps)


def changed_texts(text):
    signs = " \n:,+-0123459abxyzX.\t#"
    for at in range(len(text) + 1):
        for sign in signs:
            yield text[:at] + sign + text[at:]
            yield text[:at] + sign + text[at + 1:]
        yield text[:at] + text[at + 1:]
    lines = text.split("\n")
    for at in range(len(lines)):
        yield "\n".join(lines[:at] + lines[at + 1:])
        yield "\n".join(lines[:at] + [lines[at]] + lines[at:])
        yield "\n".join(lines[:at] + ["  " + lines[at]] + lines[at + 1:])
        yield "\n".join(lines[:at] + [lines[at][2:]] + lines[at + 1:])
        for to in range(at):
            yield "\n".join(lines[:to] + [lines[at]] + lines[to + 1:at] + [lines[to]] + lines[at + 1:])
    for word in ("repeat", "choose", "or", "end", "n: -", ""):
        for at in range(len(lines) + 1):
            yield "\n".join(lines[:at] + [word] + lines[at:])
            yield "\n".join(lines[:at] + ["  " + word] + lines[at:])


WRONG = [
    (), None, (repeat(GO),), (GO, repeat(ON)), (repeat(ON), GO), (GO, repeat(ON), repeat(BACK), OUT),
    (choose((GO,)),), (choose((GO,), (ON,), (BACK,), (OUT,), (step("c"),)),), (("choose",),), (("repeat",),),
    (GO, ("repeat", (ON,), (BACK,)), OUT), (GO, ("repeat", ()), ON), (choose((GO,), ()),), (choose((), (GO,)),),
    (GO, GO), (GO, choose((ON,), (ON,))), (GO, repeat(GO), ON), (GO, repeat(ON), step("go", "x+1")),
    (step("x", "x-1"),), (step("x"), ON), (ON, step("x")), (GO, repeat(step("y")), BACK),
    (choose((GO,), (ON, repeat(BACK))),), (choose((repeat(GO), ON), (BACK,)),), (GO, repeat(repeat(ON), BACK), OUT),
    (GO, repeat(ON, repeat(BACK)), OUT), (("step", "go"),), (("step", "go", (), ()),), (("step", "Go", ()),),
    (("step", "go", [],),), (("step", "go", (("x", 0),)),), (("step", "go", (("x", 10),)),),
    (("step", "go", (("y", 1), ("x", 1))),), (("step", "go", (("x", 1), ("x", 2))),), (("step", "go", (("x", True),)),),
    (("step", 1, ()),), (("step", None, ()),), (("steps", "go", ()),), (("Step", "go", ()),), ("step", "go", ()),
    ([GO],), [GO], (list(GO),), (("repeat", GO),), (GO, ("repeat", [ON]), BACK), (choose([GO], (ON,)),),
    (("choose", (GO,), None),), ((GO,),), (GO, None), (GO, "on"), (("step", "go", None),), (("step", "abcdefghi", ()),),
    (GO, ("while", (ON,)), BACK), (None, GO), ((), GO), (("",), GO),
]


class TestPrograms(unittest.TestCase):
    def test_examples(self):
        plan = read_program(TEXT)
        self.assertEqual(
            [plan[4], [one[:3] for one in compiled(plan)], listing(plan).split("\n")[2]],
            [("step", "back", (("z", -1),)),
             [("a", "b", "b"), ("b", "c", "c"), ("back", "c", "a"), ("go", "a", "b"), ("on", "b", "c")],
             "  a: x - 1, y + 1 # n^2"])

    def test_what_is_a_program(self):
        for program in some_programs():
            self.assertIs(is_program(program), True, program)
            for at in range(len(program)):
                self.assertIs(is_program((program[at],)), program[at][0] != "repeat")
        for value in WRONG + odd_values() + [nested(30)]:
            self.assertIs(is_program(value), False, value)

    def test_how_deep_a_program_is(self):
        one = step("s")
        for many in range(1, 8):
            self.assertEqual(deep(one), many)
            self.assertIs(is_program((one,)), many <= 4)
            self.assertIs(is_program((GO, choose((one,), (OUT,)), ON)), many <= 3)
            one = choose((step("s" + "abcdefgh"[many]),), (one,))
        one = step("s")
        for many in range(1, 8):
            self.assertIs(is_program((GO, one, ON)), many <= 4)
            name = "abcdefgh"[many]
            one = repeat(step("s" + name), one, step("t" + name))

    def test_programs_with_one_thing_otherwise(self):
        for program in some_programs()[:60]:
            more = step("fresh")
            self.assertTrue(is_program(program + (more,)) and is_program((more,) + program))
            # A repeat first, last, or behind another one.
            self.assertFalse(is_program((repeat(more),) + program) or is_program(program + (repeat(more),)))
            self.assertTrue(is_program((step("ff"),) + (repeat(more),) + program))
            self.assertFalse(is_program((step("ff"), repeat(more), repeat(step("gg"))) + program))
            self.assertTrue(is_program((step("ff"), repeat(more), step("hh"), repeat(step("gg"))) + program))
            # Equal names, and a name that is a counter.
            first = next(steps_of(program))[0]
            self.assertFalse(is_program(program + (step(first),)) or is_program((step(first, "u-1"),) + program))
            counters = [counter for _, change in steps_of(program) for counter, _ in change]
            for counter in counters[:2]:
                self.assertFalse(is_program(program + (step(counter),)))
            self.assertFalse(is_program(program + (("step", "fresh", ((first, 1),)),)))
            # One body or five.
            bodies = [(step("f" + letter),) for letter in "abcde"]
            for many in range(6):
                self.assertIs(is_program(program + (("choose", *bodies[:many]),)), 2 <= many <= 4)
            self.assertFalse(is_program(list(program)) or is_program(program + (None,)))

    def test_graphs_that_the_test_lays(self):
        for program, lines in LAID:
            self.assertEqual(compiled(program), graph_by(lines, program), lines)

    def test_graphs_of_programs(self):
        graphs = 0
        for program in some_programs():
            rows, many = laid(program)
            changes = dict(steps_of(program))
            counters = sorted({counter for change in changes.values() for counter, _ in change})
            if many > 8 or len(rows) > 16 or len(counters) > 5:
                with self.assertRaises(InvalidGraph):
                    compiled(program)
                continue
            graphs += 1
            expected = [(name, "abcdefgh"[begin], "abcdefgh"[end], changes[name]) for name, begin, end in rows]
            letters = [letter for letter in "abcdefghijklmnopqrstuvwxyz" if letter not in changes]
            self.assertEqual(compiled(program), Graph(tuple(counters or letters[:1]), *expected))
        self.assertGreater(graphs, 60)

    def test_programs_without_counters(self):
        for names, counter in (("b", "a"), ("ab", "c"), ("ba", "c"), ("ac", "b"), ("abcdefghijklmnop", "q")):
            program = (choose(*[(step(name),) for name in names[:4]]),) if 1 < len(names) < 5 else \
                tuple(step(name) for name in names[:8])
            expected = next(one for one in "abcdefghijklmnopqrstuvwxyz" if one not in names[:8])
            self.assertEqual(compiled(program).counters, (expected,))
            self.assertTrue(len(names) > 8 or expected == counter)
        self.assertEqual(compiled((step("a"), step("d", "b-1"))).counters, ("b",))

    def test_programs_whose_graph_is_none(self):
        eight = tuple(step("s" + letter) for letter in "abcdefgh")
        self.assertEqual(len(compiled(eight).states), 8)
        wide = [choose(*[(step(letter + name),) for name in "abcd"]) for letter in "stuvw"]
        self.assertEqual(len(compiled(tuple(wide[:4]))), 16)
        letters = [choose(*[(step(letter),) for letter in row]) for row in
                   ("abcd", "efgh", "ijkl", "mnop", "qrst", "uvwx", "yz")]
        for program in (eight + (step("more"),), tuple(wide), tuple(wide[:4]) + (step("more"),), tuple(letters),
                        (step("s", "u-1", "v-1", "w-1", "x-1", "y-1", "z-1"),),
                        tuple(step("s" + one + two) for one in "abcdef" for two in "abcdef"),
                        (GO, repeat(*eight[:4], repeat(*[step("t" + name) for name in "abcdef"]), eight[4]), ON)):
            self.assertIs(is_program(program), True)
            for call in (compiled, listing):
                with self.assertRaises(InvalidGraph):
                    call(program)
            self.assertEqual(read_program(program_text(program)), program)

    def test_rounds_are_closed_walks(self):
        looked = 0
        for program in some_programs():
            try:
                graph = compiled(program)
            except InvalidGraph:
                continue
            most = 6 if len(graph) < 7 else 4
            if max(len(graph.leaving(state)) for state in graph.states) < 6:
                looked += 1
                self.assertEqual(rounds_of(words_of(program, most), most), closed_walks(graph, most))
        self.assertGreater(looked, 60)

    def test_texts_there_and_back(self):
        for program in some_programs():
            text = program_text(program)
            self.assertTrue(is_text(text), text)
            self.assertEqual(read_program(text), program)
            self.assertFalse(text.endswith("\n"))
        self.assertEqual(program_text(read_program(TEXT)), TEXT)
        self.assertEqual(program_text((GO, repeat(ON, choose((BACK,), (OUT,))), step("c", "x+9"))),
                         "go: -\nrepeat\n  on: x - 1\n  choose\n    back: y + 2, z - 9\n  or\n    out: x + 1, y - 1\n"
                         "  end\nend\nc: x + 9")
        # Steps may be called like the words of the language.
        words = tuple(step(name) for name in ("repeat", "choose", "or", "end", "step"))
        self.assertEqual(read_program("repeat: -\nchoose: -\nor: -\nend: -\nstep: -"), words)

    def test_texts_with_something_otherwise(self):
        texts = [TEXT] + [program_text(program) for program in some_programs()[3:13]]
        right = wrong = 0
        for text in texts:
            for other in changed_texts(text):
                if is_text(other):
                    right += 1
                    self.assertEqual(program_text(read_program(other)), other)
                else:
                    wrong += 1
                    with self.assertRaises(ParseError, msg=other):
                        read_program(other)
        self.assertTrue(right > 300 and wrong > 10000, (right, wrong))

    def test_texts_of_no_program(self):
        for text in ["", "\n", TEXT + "\n", "\n" + TEXT, TEXT + " ", " " + TEXT, TEXT.replace("\n", "\r\n"),
                     TEXT.replace("  ", "\t"), TEXT.replace("  ", "    "), TEXT.replace("  ", " "), TEXT.upper(),
                     TEXT.replace("z - 1", "z - 01"), TEXT.replace("z - 1", "z - 10"), TEXT.replace("z - 1", "z - 0"),
                     TEXT.replace("z - 1", "z - +1"), TEXT.replace("z - 1", "z -1"), TEXT.replace("z - 1", "z-1"),
                     TEXT.replace("x - 1, y + 1", "y + 1, x - 1"), TEXT.replace("x - 1, y + 1", "x - 1, x + 1"),
                     TEXT.replace("x - 1, y + 1", "x - 1,y + 1"), TEXT.replace("x - 1, y + 1", "x - 1; y + 1"),
                     TEXT.replace("go: -", "go:"), TEXT.replace("go: -", "go: "), TEXT.replace("go: -", "go : -"),
                     TEXT.replace("go: -", "go: - "), TEXT.replace("end", "end "), TEXT.replace("repeat", "repeat:"),
                     "repeat\n  a: -\nend", "a: -\nend", "a: -\nrepeat\n  b: -", "or", "a: -\nor\nb: -", "a: -\n\nb: -",
                     "choose\n  a: -\nend", "choose\nor\n  a: -\nend", "x: x - 1", "abcdefghi: -", "a1: -", "go: -" * 2,
                     listing(read_program(TEXT)), "\n".join(["repeat"] * 5000), "end\n" * 5000, "a: -\n" + "  " * 99]:
            self.assertFalse(is_text(text))
            with self.assertRaises(ParseError, msg=text):
                read_program(text)
        for value in odd_values() + [read_program(TEXT), [TEXT], (TEXT,), b"a: -"]:
            if not isinstance(value, str) or value != TEXT:
                with self.assertRaises(ParseError):
                    read_program(value)

    def test_listings(self):
        for program in some_programs():
            try:
                told = growths(compiled(program))
            except InvalidGraph:
                with self.assertRaises(InvalidGraph):
                    listing(program)
                continue
            lines = program_text(program).split("\n")
            for at, line in enumerate(lines):
                name = line.strip().partition(":")[0]
                if ":" in line:
                    one = told[name]
                    word = one[0] if one[0] != "power" else "n" if one[1] == 1 else f"n^{one[1]}"
                    lines[at] = f"{line} # {word}"
            self.assertEqual(listing(program), "\n".join(lines))
        self.assertEqual(
            listing((step("go"), repeat(step("a", "x-1", "y+1")), step("on"), repeat(step("b", "x+2", "y-1")),
                     step("back", "z-1"))),
            "go: - # n\nrepeat\n  a: x - 1, y + 1 # beyond\nend\non: - # n\nrepeat\n  b: x + 2, y - 1 # beyond\nend\n"
            "back: z - 1 # n")
        self.assertEqual(
            listing((step("go", "z-1"), repeat(step("a", "u+1")), step("on"), repeat(step("b", "u-1")), step("back"))),
            "go: z - 1 # n\nrepeat\n  a: u + 1 # free\nend\non: - # n\nrepeat\n  b: u - 1 # free\nend\nback: - # n")

    def test_errors(self):
        for value in WRONG + odd_values():
            for call in (compiled, program_text, listing):
                with self.assertRaises(InvalidOperation):
                    call(value)


if __name__ == "__main__":
    unittest.main()
