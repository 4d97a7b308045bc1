"""Point [24]: CODE, and what it reads by a TREE."""

import random
import unittest

from crossnest.code import bare, code_of, frame_names, is_code, may_hold, reads_due, run_code
from crossnest.engine import Engine
from crossnest.layouts import failing, origins, spoiling
from crossnest.programs import names_of, pairs_of
from tests.homes import parted
from tests.plain import PlainRun
from tests.samples import A, AGAIN, BOTH, CHAIN, D, DEEP, LENT, ONCE, TWICE
from tests.small import error_told, small_programs
from tests.test_engine import run_out
from tests.test_layouts import MIXED
from tests.test_rounds import make, row_program

HOMES = ("cell", "round", "stack", "queue", "heap")
SIXES = (("cell", 0, ((0, "r"),)), ("round", 2, A), ("round", 2, ((1, "u"),)))
# x is handed to y, which is handed on to r; z is handed to r's other name.
HANDED = row_program(make("x"), ("hand", "y", "x"), make("z"), ("hand", "w", "z"), make("r", "y", "w", "x"))
# The callee's second visit never comes: what it hands there holds nothing.
NEVER = (
    (((),), (("r",),), (((1,), ((("go", 0), make("r", (0, "a"))),)),)),
    (((), ("i",)), (("a",), ("b",)), (((), ((make("a"),), (("hand", "b", "i"),))),)),
)


def plain_holdings(program):
    """By pair: the ORIGINS from which hands lead to it."""
    found, links = {}, {}
    for at, (_, _, rules) in enumerate(program):
        for callees, rows in rules:
            pair = lambda word: (at, word) if isinstance(word, str) else (callees[word[0]], word[1])
            for step in [step for row in rows for step in row if step[0] == "hand"]:
                links.setdefault(pair(step[2]), set()).add(pair(step[1]))
    for origin in origins(program):
        seen, waiting = {origin}, [origin]
        while waiting:
            for other in links.get(waiting.pop(), ()):
                if other not in seen:
                    seen.add(other)
                    waiting.append(other)
        for pair in seen:
            found.setdefault(pair, set()).add(origin)
    return found


def plain_code(program, layout):
    """The CODE, written out anew."""
    held = plain_holdings(program)
    parts = {pair: at for at, (_, _, lot) in enumerate(layout) for pair in lot}

    def cell(pair):
        told = {parts[origin] for origin in held.get(pair, ())}
        return told.pop() if len(told) == 1 and layout[min(told)][0] == "cell" else None

    def coded(at, callees, step):
        def pair(word):
            return (at, word) if isinstance(word, str) else (callees[word[0]], word[1])

        def source(word):
            return (None, word) if cell(pair(word)) is None else (cell(pair(word)), None)

        if step[0] == "go":
            return [step]
        word = step[1] if cell(pair(step[1])) is None else None
        if step[0] == "make":
            return [("make", parts[pair(step[1])], word, tuple(source(other) for other in step[2]))]
        return [] if word is None else [("hand", word, source(step[2]))]

    procedures = tuple(
        tuple(
            (callees, tuple(tuple(put for step in row for put in coded(at, callees, step)) for row in rows))
            for callees, rows in rules
        )
        for at, (_, _, rules) in enumerate(program)
    )
    asks = tuple(
        tuple((None, name) if cell((0, name)) is None else (cell((0, name)), None) for name in names)
        for names in program[0][1]
    )
    return tuple((home, number) for home, number, _ in layout), procedures, asks


def plain_due(run):
    """For each make and each asking the values of its words, by numbers of makes."""
    numbers, found = {}, []
    for at, event in enumerate(run.events):
        if event["step"][0] != "hand":
            found.append(tuple(numbers[run.at[slot]] for slot in event["slots"]))
        if event["step"][0] == "make":
            numbers[at] = len(numbers)
    return found


def otherwise(program, layout, tree):
    """The pairs (event, value) of what CODE reads otherwise than is due."""
    run = PlainRun(program, tree)
    events = [at for at, event in enumerate(run.events) if event["step"][0] != "hand"]
    makes = [at for at, event in enumerate(run.events) if event["step"][0] == "make"]
    found = set()
    read, due = run_code(code_of(program, layout), tree), reads_due(program, tree)
    assert len(read) == len(due) == len(events)
    for at, told, wanted in zip(events, read, due):
        assert len(told) == len(wanted)
        found |= {(at, makes[value]) for value, other in zip(wanted, told) if value != other}
    return tuple(sorted(found))


class Plain(unittest.TestCase):
    def test_may_hold(self):
        self.assertEqual(may_hold(HANDED, 0, "y"), ((0, "x"),))
        self.assertEqual(may_hold(HANDED, 0, "x"), ((0, "x"),))
        self.assertEqual(may_hold(NEVER, 1, "i"), ())
        self.assertEqual(may_hold(NEVER, 1, "b"), ())
        self.assertEqual(may_hold(LENT, 1, "x"), ((1, "x"),))
        for name in ("zz", "i"):
            self.assertEqual(error_told(may_hold, LENT, 1, name), ("NoName", name))
        self.assertEqual(error_told(may_hold, LENT, 2, "zz"), ("NoProcedure", 2))
        self.assertEqual(error_told(may_hold, LENT, -1, "x"), ("NoProcedure", -1))

    def test_bare_and_kept(self):
        one = (("cell", 0, origins(HANDED)),)
        self.assertEqual(bare(HANDED, one), pairs_of(HANDED))
        self.assertEqual(frame_names(HANDED, one), ((),))
        split = (("cell", 0, ((0, "r"), (0, "x"))), ("cell", 0, ((0, "z"),)))
        self.assertEqual(bare(HANDED, split), pairs_of(HANDED))
        heaped = (("cell", 0, ((0, "x"),)), ("heap", 0, ((0, "r"), (0, "z"))))
        self.assertEqual(bare(HANDED, heaped), ((0, "x"), (0, "y")))
        self.assertEqual(frame_names(HANDED, heaped), (("r", "w", "z"),))
        # What may hold nothing is not bare; what may hold values of two parts neither.
        self.assertEqual(bare(NEVER, (("cell", 0, origins(NEVER)),)), ((0, "r"), (1, "a")))
        self.assertEqual(frame_names(NEVER, (("cell", 0, origins(NEVER)),)), ((), ("b", "i")))
        two = (("cell", 0, ((0, "r"), (1, "x"))), ("cell", 0, ((1, "y"),)))
        self.assertEqual(bare(LENT, two), ((0, "r"), (1, "x")))
        self.assertEqual(bare(LENT, (("round", 1, origins(LENT)),)), ())

    def test_code_of_hands(self):
        heaped = (("cell", 0, ((0, "x"),)), ("heap", 0, ((0, "r"), (0, "z"))))
        self.assertEqual(code_of(HANDED, heaped), (
            (("cell", 0), ("heap", 0)),
            ((((), ((
                ("make", 0, None, ()), ("make", 1, "z", ()), ("hand", "w", (None, "z")),
                ("make", 1, "r", ((0, None), (None, "w"), (0, None))),
            ),)),),),
            (((None, "r"),),),
        ))
        # A bare pair is handed on to one that is kept: a handle of the youngest value.
        two = (("cell", 0, ((0, "r"), (1, "x"))), ("cell", 0, ((1, "y"),)))
        self.assertEqual(code_of(LENT, two)[1][1], (
            ((), ((("hand", "y", (0, None)),),)), ((), ((("make", 1, "y", ()),),)),
        ))
        self.assertEqual(run_code(code_of(LENT, two), (0, ((0, ()),))), [(), (0,), (1,)])
        self.assertEqual(run_code(code_of(LENT, two), (0, ((1, ()),))), [(), (), (1,), (2,)])

    def test_a_handle_of_a_value_that_is_lost(self):
        # x is handed on to y behind the make that takes its cell: both read what stands there.
        program = row_program(make("x"), make("z"), ("hand", "y", "x"), ("hand", "w", "x"), make("r", "y", "z"))
        for home, told in (
                ("cell", [(), (), (1, 1), (2,)]), ("heap", [(), (), (0, 1), (2,)]), ("stack", [(), (), (0, 1), (2,)]),
        ):
            layout = ((home, 0, ((0, "x"), (0, "z"))), ("heap", 0, ((0, "r"),)))
            self.assertEqual(run_code(code_of(program, layout), (0, ())), told)
        # z is used: x is lost in the queue ahead of its handle being handed on.
        later = row_program(make("x"), make("z"), make("p", "z"), ("hand", "y", "x"), make("q", "y"), make("r", "y"))
        layout = (("queue", 0, ((0, "x"), (0, "z"))), ("heap", 0, ((0, "p"), (0, "q"), (0, "r"))))
        self.assertEqual(run_code(code_of(later, layout), (0, ())), [(), (), (1,), (None,), (None,), (4,)])
        self.assertEqual(reads_due(later, (0, ())), [(), (), (1,), (0,), (0,), (4,)])
        # In a round of two x is gone with the third make.
        layout = (("round", 2, ((0, "p"), (0, "x"), (0, "z"))), ("heap", 0, ((0, "q"), (0, "r"))))
        self.assertEqual(run_code(code_of(later, layout), (0, ())), [(), (), (1,), (2,), (2,), (4,)])

    def test_values_of_all_parts_are_counted(self):
        layout = (("round", 1, ((1, "d"),)), ("heap", 0, ((0, "r"), (1, "u"))))
        self.assertEqual(reads_due(DEEP, CHAIN), [(), (0,), (1,), (0, 2), (3,), (4,)])
        self.assertEqual(run_code(code_of(DEEP, layout), CHAIN), [(), (0,), (1,), (1, 2), (3,), (4,)])
        self.assertEqual(otherwise(DEEP, layout, CHAIN), ((3, 0),))

    def test_is_code(self):
        layout = SIXES
        good = code_of(TWICE, layout)
        self.assertTrue(is_code(TWICE, layout, good))
        self.assertTrue(is_code(TWICE, [list(part) for part in layout], good))
        homes, procedures, asks = good
        for thing in (
                None, True, 0, "code", (), good[:2], good + ((),), list(good), [homes, procedures, asks], (list(homes), procedures, asks),
                (homes[::-1], procedures, asks), (homes, procedures[::-1], asks), (homes, procedures, ()), (homes, procedures, asks * 2),
                ((("cell", False), ("round", 2), ("round", 2)), procedures, asks), (homes, procedures, (((False, None),),)),
                (homes, procedures, (((0, 0),),)), (homes, procedures, (((0, ()),),)), (homes, procedures, (([0, None],),)),
                ((("cell", 0), ("round", 2), ("round", 2.5)), procedures, asks), (homes, None, asks), (homes, procedures, ((None,),)),
        ):
            self.assertFalse(is_code(TWICE, layout, thing), thing)

    def test_errors_in_their_order(self):
        region = (("region", 0, A), ("cell", 0, ((0, "r"), (1, "u"))))
        for call, rest in ((bare, ()), (frame_names, ()), (code_of, ()), (is_code, (None,))):
            for layout in ((), None, 7, "layout", region[:1], SIXES + SIXES, ((0, 0, 0),), (("region", 1, A),) + region[1:]):
                self.assertEqual(error_told(call, TWICE, layout, *rest), ("Unfit",))
            self.assertEqual(error_told(call, TWICE, region, *rest), ("CanNot",))
            for home, number in (("order", 0), ("homes", 1)):
                layout = (("heap", 0, ((0, "r"), (1, "u"))), (home, number, A))
                self.assertEqual(error_told(call, TWICE, layout, *rest), ("CanNot",))


class ForAllRuns(unittest.TestCase):
    def test_against_an_engine(self):
        chance, wrong, right = random.Random(24), 0, 0
        for program, _, rows, _ in small_programs(range(1300, 1312)):
            if not origins(program):
                continue
            held = plain_holdings(program)
            for at in range(len(program)):
                for name in names_of(program, at):
                    self.assertEqual(may_hold(program, at, name), tuple(sorted(held.get((at, name), ()))))
            for _ in range(3):
                layout = parted(chance, origins(program), HOMES)
                code = plain_code(program, layout)
                self.assertEqual(code_of(program, layout), code)
                self.assertTrue(is_code(program, layout, code))
                told = bare(program, layout)
                kept = frame_names(program, layout)
                self.assertEqual(
                    sorted(told + tuple((at, name) for at, names in enumerate(kept) for name in names)),
                    list(pairs_of(program)))
                is_wrong = False
                for tree, run in rows[:20]:
                    self.assertEqual(reads_due(program, tree), plain_due(run))
                    found = otherwise(program, layout, tree)
                    self.assertEqual(found, run_out(program, layout, tree).misread())
                    is_wrong = is_wrong or len(found) > 0
                right += len(failing(program, layout)) == 0
                if is_wrong:
                    wrong += 1
                    self.assertNotEqual(failing(program, layout), ())
                for at in failing(program, layout):
                    tree = spoiling(program, *layout[at])[0]
                    self.assertNotEqual(otherwise(program, layout, tree), ())
        self.assertGreater(wrong, 40)
        self.assertGreater(right, 15)

    def test_what_comes_to_be_may_be_held(self):
        for program, _, rows, _ in small_programs(range(1312, 1320)):
            held = plain_holdings(program)
            for tree, run in rows[:20]:
                for (path, name), value in run.at.items():
                    number, part = 0, tree
                    for place in path:
                        number, part = program[number][2][part[0]][0][place], part[1][place]
                    self.assertIn(run.events[value]["pair"], held[(number, name)])

    def test_samples_in_all_homes(self):
        for program, tree in ((DEEP, CHAIN), (TWICE, BOTH), (AGAIN, (0, ())), (MIXED, (0, ((0, ()), (0, ()), CHAIN[1][0])))):
            for home in HOMES:
                layout = ((home, 2 if home == "round" else 0, origins(program)),)
                self.assertEqual(otherwise(program, layout, tree), run_out(program, layout, tree).misread())
        layout = (("stack", 0, D), ("cell", 0, ((0, "r"), (1, "u"))))
        self.assertEqual(run_code(code_of(DEEP, layout), CHAIN), reads_due(DEEP, CHAIN))
        self.assertEqual(Engine(DEEP, layout).misread(), ())
        self.assertEqual(reads_due(ONCE, (0, ())), [(), (0,), (1,)])


if __name__ == "__main__":
    unittest.main()
