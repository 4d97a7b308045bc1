"""Point [23]: an Engine, beside the plain RUN of its TREE."""

import random
import unittest

from crossnest.alive import alive_at, going_on
from crossnest.engine import Engine
from crossnest.errors import CanNot, TooMany
from crossnest.layouts import origins, serves, spoiling
from tests.homes import parted, plain_kept, plain_losses, plain_misread
from tests.plain import PlainRun, rule_at
from tests.samples import A, ASKED, BOTH, CHAIN, CROWDED, D, DEEP, LENT, ONCE, ROOMY, TWICE
from tests.small import SLIM, error_told, small_programs
from tests.test_layouts import MIXED

PIECES = (("cell", 0, ((0, "r"),)), ("stack", 0, A), ("round", 2, ((1, "u"),)))
ALL = ("cell", "round", "stack", "queue", "region", "order", "homes", "heap")
# The second callee is gone to only by the RULE 0 of the first one, in its second visit.
IDLE = (
    (((),), ((),), (((1,), ((("go", 0),),)),)),
    (((), ()), ((), ()), (((2,), ((), (("go", 0),))), ((), ((), ())))),
    (((),), ((),), (((), ((("make", "x", ()),),)),)),
)


def heap(program):
    return (("heap", 0, origins(program)),) if origins(program) else ()


def driven(engine, tree):
    """Lets the Engine go on to the end by the RULES of a TREE; tells how many EVENTS are behind."""
    while True:
        behind = engine.go_on()
        path = engine.wants()
        if path is None:
            return behind
        engine.choose(rule_at(tree, path))


def run_out(program, layout, tree):
    engine = Engine(program, layout)
    driven(engine, tree)
    return engine


def plain_tree(tree, chosen, path=()):
    """The RULES chosen, as a TREE."""
    if path not in chosen:
        return None
    return tree[0], tuple(plain_tree(part, chosen, path + (place,)) for place, part in enumerate(tree[1]))


class Plain(unittest.TestCase):
    def test_a_new_one(self):
        engine = Engine(TWICE, PIECES)
        self.assertEqual(engine.wants(), ())
        self.assertFalse(engine.ended())
        self.assertIsNone(engine.tree())
        for found in (engine.alive(), engine.kept(0), engine.kept(2), engine.misread(), engine.outs()):
            self.assertEqual(found, ())
        self.assertEqual(engine.go_on(), 0)
        self.assertEqual(error_told(engine.step), ("Unfit",))
        self.assertIsNone(engine.choose(0))
        self.assertEqual(engine.wants(), (0,))
        self.assertEqual(engine.tree(), (0, (None, None)))

    def test_no_layout(self):
        for layout in ((), PIECES[:2], PIECES + PIECES[:1], (("cell", 1, origins(TWICE)),), None, 5, (("shelf", 0, origins(TWICE)),)):
            self.assertEqual(error_told(Engine, TWICE, layout), ("Unfit",))
        self.assertIsNone(error_told(Engine, program=TWICE, layout=PIECES))

    def test_errors_in_their_order(self):
        engine = Engine(TWICE, PIECES)
        for rule in (1, -1, 10 ** 6):
            self.assertEqual(error_told(engine.choose, rule), ("NoRule", rule))
        self.assertEqual(engine, Engine(TWICE, PIECES))
        engine.choose(0)
        engine.choose(0)
        self.assertEqual(error_told(engine.choose, 7), ("NothingDone",))
        self.assertEqual(engine.step(), 0)
        self.assertEqual(error_told(engine.step), ("Unfit",))
        self.assertEqual(error_told(engine.choose, rule=7), ("NoRule", 7))
        engine.choose(rule=0)
        self.assertEqual([engine.step() for _ in range(5)], [1, 2, 3, 4, 5])
        self.assertTrue(engine.ended())
        for _ in range(2):
            self.assertEqual(error_told(engine.step), ("CanNot",))
            self.assertEqual(error_told(engine.choose, 9), ("NothingDone",))
            self.assertEqual(engine.go_on(), 6)
            self.assertIsNone(engine.wants())
        for number in (-1, 3, 10 ** 6):
            self.assertEqual(error_told(engine.kept, number), ("Unfit",))

    def test_a_node_that_is_never_gone_to(self):
        engine = Engine(IDLE, heap(IDLE))
        engine.choose(0)
        self.assertEqual(engine.wants(), (0,))
        engine.choose(0)
        # The first visit alone comes: the callee's callee is never gone to.
        self.assertIsNone(engine.wants())
        self.assertEqual(engine.tree(), (0, ((0, (None,)),)))
        self.assertEqual(engine.go_on(), 1)
        self.assertTrue(engine.ended())
        self.assertEqual(engine.tree(), (0, ((0, (None,)),)))
        self.assertEqual(engine.outs(), ((),))
        self.assertEqual(error_told(engine.choose, 0), ("NothingDone",))

    def test_several_nodes_ahead_of_one_event(self):
        engine = Engine(TWICE, PIECES)
        engine.choose(0)
        engine.choose(0)
        self.assertIsNone(engine.wants())
        self.assertFalse(engine.ended())
        engine.step()
        self.assertEqual(engine.wants(), (1,))
        rings = ((((),), ((),), (((0, 0), ((("go", 0), ("go", 1)),)), ((), ((),)))),)
        engine = Engine(rings, ())
        told = []
        for rule in (0, 0, 1, 1, 1):
            told.append(engine.wants())
            engine.choose(rule)
        self.assertEqual(told, [(), (0,), (0, 0), (0, 1), (1,)])
        self.assertEqual(engine.tree(), (0, ((0, ((1, ()), (1, ()))), (1, ()))))
        self.assertEqual((engine.step(), engine.ended(), engine.outs()), (0, True, ((),)))

    def test_a_twin_goes_its_own_way(self):
        engine = Engine(LENT, heap(LENT))
        engine.choose(0)
        engine.step()
        twin = engine.twin()
        self.assertEqual(engine, twin)
        self.assertFalse(engine != twin)
        twin.choose(1)
        self.assertNotEqual(engine, twin)
        self.assertEqual(engine.wants(), (0,))
        engine.choose(0)
        self.assertNotEqual(engine, twin)
        self.assertEqual((engine.go_on(), twin.go_on()), (4, 4))
        self.assertEqual((engine.outs(), twin.outs()), (((("r", 2),),), ((("r", 2),),)))
        self.assertEqual((engine.tree(), twin.tree()), ((0, ((0, ()),)), (0, ((1, ()),))))
        self.assertEqual(engine.twin().twin(), engine)

    def test_equal(self):
        one, other = Engine(ONCE, heap(ONCE)), Engine(ONCE, heap(ONCE))
        self.assertEqual(one, other)
        one.choose(0)
        self.assertNotEqual(one, other)
        other.choose(0)
        self.assertEqual(one, other)
        other.step()
        self.assertNotEqual(one, other)
        self.assertTrue(one != other)
        one.go_on()
        other.go_on()
        self.assertEqual(one, other)
        for thing in (None, 0, ONCE, "engine", (), Engine(TWICE, PIECES), Engine(ONCE, (("cell", 0, origins(ONCE)),))):
            self.assertFalse(one == thing)
            self.assertTrue(one != thing)
        self.assertNotEqual(Engine(TWICE, PIECES), Engine(TWICE, (PIECES[1], PIECES[0], PIECES[2])))

    def test_it_keeps_a_copy(self):
        layout = [["heap", 0, [[0, "r"], [0, "x"]]]]
        program = [[[[]], [["r"]], [[[], [[["make", "x", []], ["make", "r", ["x"]]]]]]]]
        engine = Engine(program, layout)
        program[0][2][0][1][0].append(["make", "z", []])
        layout[0][0] = "cell"
        layout.append(["cell", 0, []])
        self.assertEqual(engine, Engine(ONCE, heap(ONCE)))
        engine.choose(0)
        self.assertEqual(engine.go_on(), 3)
        self.assertEqual(engine.kept(0), (0, 1))
        self.assertEqual(error_told(engine.kept, 1), ("Unfit",))

    def test_what_is_chosen_is_not_known_yet(self):
        # x is alive as long as no EVENT came behind the go to the callee.
        engine = Engine(LENT, (("order", 0, origins(LENT)),))
        engine.choose(0)
        engine.step()
        self.assertEqual(engine.alive(), (0,))
        engine.choose(1)
        self.assertEqual(engine.alive(), (0,))
        engine.step()
        self.assertEqual(engine.alive(), (1,))

    def test_what_a_use_lets_be_lost_is_lost_behind_it(self):
        # r uses x and y at once: x is read, though y was made behind it.
        program = ((((),), (("r",),), (((), ((("make", "x", ()), ("make", "y", ()), ("make", "r", ("x", "y"))),)),)),)
        both = ((0, "x"), (0, "y"))
        for home, kept in (("queue", (1,)), ("stack", (0,)), ("cell", (1,)), ("heap", (0, 1))):
            engine = run_out(program, ((home, 0, both), ("heap", 0, ((0, "r"),))), (0, ()))
            self.assertEqual(engine.kept(0), kept)
            self.assertEqual(engine.misread(), ((2, 0),) if home == "cell" else ())
        # What is made of x takes the cell of x: x is not misread.
        engine = run_out(ONCE, (("cell", 0, ((0, "r"), (0, "x"))),), (0, ()))
        self.assertEqual((engine.misread(), engine.kept(0)), ((), (1,)))

    def test_homes_take_the_eldest(self):
        # Three values alive at once in one home, in two, in three.
        program = ((((),), (("r",),), (((), ((
            ("make", "x", ()), ("make", "y", ()), ("make", "z", ()), ("make", "p", ()), ("make", "r", ("x", "y", "z")),
        ),)),)),)
        lot = ((0, "p"), (0, "x"), (0, "y"), (0, "z"))
        for number, kept, misread in ((1, (2, 3), ((4, 0), (4, 1))), (2, (1, 2, 3), ((4, 0),)), (3, (0, 1, 2, 3), ())):
            engine = run_out(program, (("homes", number, lot), ("heap", 0, ((0, "r"),))), (0, ()))
            self.assertEqual((engine.kept(0), engine.misread()), (kept, misread))

    def test_too_many(self):
        pairs = origins(CROWDED)
        for home, is_asked in (("region", True), ("order", True), ("homes", True), ("cell", False), ("heap", False)):
            number = 1 if home == "homes" else 0
            engine = Engine(CROWDED, (("stack", 0, pairs[:1]), (home, number, pairs[1:])))
            engine.choose(0)
            engine.step()
            self.assertEqual(error_told(engine.alive), ("TooMany",))
            self.assertEqual(error_told(engine.kept, 2), ("Unfit",))
            for look in (lambda: engine.kept(0), lambda: engine.kept(1), engine.misread):
                if is_asked:
                    self.assertRaises(TooMany, look)
                else:
                    look()
            # Deeds go on.
            self.assertEqual(engine.go_on(), 4)
            engine.choose(0)
            self.assertEqual(engine.step(), 4)
        roomy = Engine(ROOMY, (("region", 0, origins(ROOMY)),))
        roomy.choose(0)
        roomy.step()
        self.assertEqual(roomy.kept(0), (0,))


class ForAllRuns(unittest.TestCase):
    def look_along(self, program, layout, tree, run, is_step):
        """An Engine beside the RUN, MOMENT by MOMENT."""
        engine, order = Engine(program, layout), list(run.first)
        alive = [alive_at(program, tree, moment) for moment in range(len(run.events) + 1)]
        lost = [plain_losses(run, alive, *part) for part in layout]
        chosen, behind = set(), 0
        while True:
            wanted = next((path for path in order if path not in chosen), None)
            is_wanted = wanted is not None and max(0, run.first[wanted]) <= behind
            self.assertEqual(engine.wants(), wanted if is_wanted else None)
            self.assertEqual(engine.ended(), not is_wanted and behind == len(run.events))
            self.assertEqual(engine.tree(), plain_tree(tree, chosen))
            self.assertEqual(engine.alive(), alive[behind])
            misread = set()
            for number, (_, _, lot) in enumerate(layout):
                self.assertEqual(engine.kept(number), plain_kept(run, lost[number], lot, behind))
                misread |= plain_misread(run, lost[number], behind)
            self.assertEqual(engine.misread(), tuple(sorted(misread)))
            self.assertEqual(engine.outs(), tuple(
                tuple((name, run.at[((), name)]) for name in event["step"][1])
                for event in run.events[:behind] if event["step"][0] == "ask"
            ))
            if is_wanted:
                self.assertIsNone(engine.choose(rule_at(tree, wanted)))
                chosen.add(wanted)
            elif behind == len(run.events):
                return
            elif is_step:
                self.assertEqual(engine.step(), behind)
                behind += 1
            else:
                behind = len(run.events) if wanted is None else run.first[wanted]
                self.assertEqual(engine.go_on(), behind)

    def test_beside_the_run(self):
        chance = random.Random(23)
        for program, _, rows, _ in small_programs(range(1200, 1208)):
            if not origins(program):
                continue
            for tree, run in rows[::7][:4]:
                layout = parted(chance, origins(program), ALL)
                self.look_along(program, layout, tree, run, chance.random() < 0.5)

    def test_beside_the_run_of_examples(self):
        slow = (0, ((1, ()),))
        for program, tree in ((DEEP, CHAIN), (TWICE, BOTH), (LENT, slow), (ASKED, slow), (ASKED, (0, ((0, ()),)))):
            run = PlainRun(program, tree)
            for home in ALL:
                number = 1 if home in ("round", "homes") else 0
                self.look_along(program, ((home, number, origins(program)),), tree, run, True)

    def test_what_serves_is_never_misread(self):
        served = 0
        for program, lot, rows, _ in small_programs(range(1210, 1216), kinds=SLIM, rules=5):
            lot = tuple(pair for pair in lot if pair in origins(program))
            rest = tuple(pair for pair in origins(program) if pair not in lot)
            if not lot:
                continue
            for home, number in (
                    ("cell", 0), ("round", 2), ("stack", 0), ("queue", 0), ("region", 0), ("order", 0), ("homes", 1),
                    ("homes", 2),
            ):
                layout = ((home, number, lot),) + ((("heap", 0, rest),) if rest else ())
                if serves(program, home, number, lot):
                    served += 1
                    for tree, _ in rows[:12]:
                        self.assertEqual(run_out(program, layout, tree).misread(), ())
                    continue
                tree = self.misreading(program, home, number, lot)
                self.assertNotEqual(run_out(program, layout, tree).misread(), ())
        self.assertGreater(served, 20)

    def misreading(self, program, home, number, lot):
        """A TREE in whose RUN a value is misread: that of the PAPER, or one that goes on to a use."""
        tree, numbers = spoiling(program, home, number, lot)
        if home not in ("region", "order", "homes"):
            return tree
        layout = ((home, number, lot),)
        rest = tuple(pair for pair in origins(program) if pair not in lot)
        engine = run_out(program, layout + ((("heap", 0, rest),) if rest else ()), tree)
        if engine.misread():
            return tree
        moment = numbers[-1]
        run = PlainRun(program, tree)
        alive = [alive_at(program, tree, at) for at in range(len(run.events) + 1)]
        lost = plain_losses(run, alive, home, number, lot)
        value = next(value for value in alive[moment] if value in lost and lost[value] <= moment)
        return going_on(program, tree, moment, value)[0]

    def test_a_home_of_each_kind_misreads(self):
        told = set()
        tree = (0, ((0, ()), (0, ()), (1, ((0, ()),))))
        for home in ALL:
            number = 1 if home in ("round", "homes") else 0
            lot = ((1, "d"), (2, "a"))
            engine = run_out(MIXED, ((home, number, lot), ("heap", 0, ((0, "r"), (1, "u"), (2, "u")))), tree)
            if engine.misread():
                told.add(home)
        self.assertEqual(told, set(ALL) - {"heap"})

    def test_deep_of_each_home(self):
        for home, misread in (("cell", ((3, 0),)), ("stack", ()), ("queue", ((3, 0),)), ("region", ()), ("order", ((3, 0),))):
            engine = run_out(DEEP, ((home, 0, D), ("heap", 0, ((0, "r"), (1, "u")))), CHAIN)
            self.assertEqual(engine.misread(), misread)


class Changes(unittest.TestCase):
    def test_a_call_that_raises_changes_nothing(self):
        engine = Engine(TWICE, PIECES)
        engine.choose(0)
        engine.choose(0)
        engine.step()
        before = engine.twin()
        for call in (engine.step, lambda: engine.choose(5), lambda: engine.choose(-1), lambda: engine.kept(9)):
            with self.assertRaises((LookupError, ValueError)):
                call()
            self.assertEqual(engine, before)

    def test_looks_change_nothing(self):
        engine = Engine(TWICE, PIECES)
        engine.choose(0)
        before = engine.twin()
        for look in (engine.wants, engine.ended, engine.tree, engine.alive, engine.misread, engine.outs, engine.twin):
            self.assertEqual(look(), look())
        engine.kept(1)
        self.assertEqual(engine, before)
        with self.assertRaises(CanNot):
            run_out(TWICE, PIECES, BOTH).step()


if __name__ == "__main__":
    unittest.main()
