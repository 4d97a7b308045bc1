"""Point [17]: frames, what is kept in them, and NAMES that share a cell in each."""

import itertools
import unittest

from crossnest.errors import TooMany
from crossnest.frames import (
    drop_at, frame_cells, frame_clash, is_frame_clash, is_kept_run, kept_at, kept_run, kept_until,
    one_frame, tails,
)
from crossnest.programs import names_of
from crossnest.rounds import can_be_cell
from crossnest.trees import is_tree, nodes
from tests.plain import PlainRun, handing_program, node_at
from tests.samples import (
    BOTH, BUSH, CHAIN, DEEP, LENT, ONCE, RELAY, TOP, TWICE, TWO, wide_program,
)
from tests.small import error_told, small_programs

LENT_TREE = (0, ((0, ()),))


def make(name, *words):
    return "make", name, words


# The callee is gone to once: its INS c and g of the second visit are set, and used, all the same.
HALF = (
    (((),), (("r",),), (((1,), ((
        ("go", 0), make((0, "c")), make((0, "g")), make("r", (0, "c")),
    ),)),)),
    (((), ("c", "g")), ((), ()), (((), ((make("x"),), ())),)),
)
# x and y are set by the caller, z by the callee behind y; x is used by the caller at last.
MIXED = (
    (((),), (("r",),), (((1,), ((
        make((0, "x")), ("go", 0), make((0, "y")), ("go", 0), make("r", (0, "x")),
    ),)),)),
    ((("x",), ("y",)), ((), ()), (((), ((make("w"),), (make("z", "w"),))),)),
)


def rules_of(program):
    for procedure, (_, _, rules) in enumerate(program):
        for rule in range(len(rules)):
            yield procedure, rule


def stations_in(program, procedure, rule):
    rows = program[procedure][2][rule][1]
    return [(visit, step) for visit, row in enumerate(rows) for step in range(len(row) + 1)]


def in_frames(run):
    """The values by the PATH and the NAME for which they were made."""
    return {event["sets"]: at for at, event in enumerate(run.events) if event["pair"] is not None}


def plain_kept(program, tree, run, found):
    """Adds (procedure, rule, name, station) for what is kept in this RUN."""
    values = in_frames(run)
    for (path, visit, step), moment in run.stood.items():
        procedure, rule = node_at(program, tree, path)
        for name in names_of(program, procedure):
            value = values.get((path, name))
            if value is not None and value < moment and any(use >= moment for use in run.users(value)):
                found.add((procedure, rule, name, (visit, step)))


def plain_clashes(program, tree, run, found):
    """Adds (procedure, name, other), the first value being for name."""
    values = in_frames(run)
    for (path, name), made in values.items():
        for (other_path, other), later in values.items():
            if path == other_path and made < later and any(use > later for use in run.users(made)):
                found.add((node_at(program, tree, path)[0], name, other))


class Plain(unittest.TestCase):
    def test_kept(self):
        self.assertEqual([kept_at(DEEP, 1, 1, 0, step) for step in range(4)], [("d",), ("d",), ("d",), ("u",)])
        self.assertEqual([kept_at(ONCE, 0, 0, 0, step) for step in range(3)], [(), ("x",), ("r",)])
        self.assertEqual([kept_at(TWICE, 1, 0, 0, step) for step in (0, 1)], [(), ("a",)])
        self.assertEqual([kept_at(TWICE, 1, 0, 1, step) for step in (0, 1)], [("a",), ("u",)])
        self.assertEqual(kept_until(TWICE, 1, 0, "a"), (1, 0))
        self.assertEqual(kept_until(LENT, 1, 0, "x"), (0, 1))
        # x is dead in the RULE that makes y anew; y is no value of the RULE that hands it up.
        self.assertIsNone(kept_until(LENT, 1, 1, "x"))
        self.assertIsNone(kept_until(LENT, 1, 0, "y"))
        self.assertEqual(kept_until(LENT, 1, 1, "y"), (0, 1))
        self.assertEqual(kept_until(MIXED, 1, 0, "x"), (1, 1))
        self.assertIsNone(kept_until(MIXED, 1, 0, "y"))
        self.assertEqual(kept_until(MIXED, 1, 0, "w"), (1, 0))
        # Never used; and used, but not behind a station.
        self.assertIsNone(kept_until(MIXED, 1, 0, "z"))
        self.assertIsNone(kept_until(HALF, 1, 0, "c"))

    def test_drops_and_tails(self):
        self.assertEqual(drop_at(RELAY, 1, 1), (0, 1))
        self.assertEqual(tails(RELAY), ((1, 1, 0, 1),))
        self.assertIsNone(drop_at(DEEP, 1, 1))
        self.assertEqual(tails(DEEP), ())
        self.assertEqual(drop_at(DEEP, 1, 0), None)
        self.assertEqual(drop_at(HALF, 1, 0), (0, 0))
        self.assertEqual(tails(BUSH), ())
        # Behind the last use of b its callee needs nothing of the frame any more.
        program = (TOP, ((("d",),), (("u",),), (
            ((2,), ((make("b", "d"), make("c", "b"), ("go", 0), ("hand", "u", (0, "e"))),)),
        )), (((),), (("e",),), (((), ((make("e"),),)),)))
        self.assertEqual(drop_at(program, 1, 0), (0, 2))
        self.assertEqual(tails(program), ((1, 0, 0, 2),))

    def test_one_frame(self):
        self.assertTrue(one_frame(RELAY, 1))
        self.assertFalse(one_frame(DEEP, 1))
        self.assertTrue(one_frame(DEEP, 0))
        self.assertFalse(one_frame(TWICE, 1))

    def test_clashes_of_ins(self):
        self.assertEqual(frame_clash(HALF, 1, "c", "g"), ((0, ((0, ()),)), (0,), 1, 2, 3))
        self.assertEqual(frame_clash(HALF, 1, "g", "c"), ((0, ((0, ()),)), (0,), 1, 2, 3))
        self.assertIsNone(frame_clash(HALF, 1, "x", "g"))
        tree = (0, ((0, ()),))
        for name, told in (("y", (0, 2, 4)), ("z", (0, 3, 4)), ("w", (0, 1, 4))):
            self.assertEqual(frame_clash(MIXED, 1, "x", name), (tree, (0,)) + told)
        self.assertIsNone(frame_clash(MIXED, 1, "y", "z"))
        self.assertEqual(frame_clash(MIXED, 1, "w", "y"), (tree, (0,), 1, 2, 3))
        self.assertIsNone(frame_clash(MIXED, 1, "w", "z"))
        self.assertIsNone(frame_clash(TWO, 0, "x", "x"))
        self.assertIsNone(frame_clash(TWO, 0, "x", "r"))

    def test_cells(self):
        self.assertEqual(frame_cells(TWO, 0), (("r", "x"), ("y",)))
        self.assertEqual(frame_cells(DEEP, 1), (("d", "u"),))
        self.assertEqual(frame_cells(MIXED, 1), (("w",), ("x",), ("y", "z")))
        # y is never made in lent's first RULE, but in the second one; a NAME that is only handed
        # to has no cell at all.
        self.assertEqual(frame_cells(LENT, 1), (("x", "y"),))
        program = (TOP, ((("d",),), (("u",),), (((), ((("hand", "w", "d"), ("hand", "u", "w")),)),)))
        self.assertEqual(frame_cells(program, 1), (("d",),))
        # The second row of the callee is never run.
        program = (HALF[0], (HALF[1][0], HALF[1][1], (((), ((make("x"),), (make("y"),))),)))
        self.assertEqual(frame_cells(program, 1), (("c",), ("g", "x")))

    def test_is_kept_run(self):
        good = (LENT_TREE, (0,), 0, 2)
        self.assertTrue(is_kept_run(LENT, 1, 0, "x", good))
        for thing in (
                (LENT_TREE, (0,), 0, 1), (LENT_TREE, (0,), 0, 3), (LENT_TREE, (0,), 2, 3), (LENT_TREE, (), 0, 2),
                (LENT_TREE, (1,), 0, 2), (LENT_TREE, (0, 0), 0, 2), (LENT_TREE, (False,), 0, 2), (LENT_TREE, [0], 0, 2),
                (LENT_TREE, (0,), False, 2), (LENT_TREE, (0,), 0, True), (LENT_TREE, (0,), 0), (LENT_TREE, (0,), 0, 2, 2),
                ((0, ((1, ()),)), (0,), 0, 2), (LENT_TREE, (-1,), 0, 2), (LENT_TREE, 0, 0, 2), (LENT_TREE, "0", 0, 2),
                (LENT_TREE, ("0",), 0, 2), (LENT_TREE, (None,), 0, 2), list(good), (None, (0,), 0, 2), None, True, 3, "run",
                (LENT_TREE, (0,), -4, 2), (LENT_TREE, (0,), 0, 10 ** 9), ([0, ((0, ()),)], (0,), 0, 2),
        ):
            self.assertFalse(is_kept_run(LENT, 1, 0, "x", thing), thing)
        self.assertFalse(is_kept_run(LENT, 1, 1, "x", ((0, ((1, ()),)), (0,), 0, 2)))
        self.assertFalse(is_kept_run(LENT, 1, 0, "y", (LENT_TREE, (0,), 0, 2)))

    def test_is_frame_clash(self):
        good = ((0, ()), (), 0, 1, 2)
        self.assertTrue(is_frame_clash(TWO, 0, "x", "y", good))
        self.assertTrue(is_frame_clash(TWO, 0, "y", "x", good))
        for thing in (
                ((0, ()), (), 1, 0, 2), ((0, ()), (), 0, 2, 1), ((0, ()), (), 0, 1, 3), ((0, ()), (), 0, 1, 1), ((0, ()), (), 0, 1),
                ((0, ()), (), False, 1, 2), ((0, ()), (), 0, True, 2), ((0, ()), (0,), 0, 1, 2), ((0, ()), [], 0, 1, 2), list(good),
                ((0, ()), None, 0, 1, 2), ((1, ()), (), 0, 1, 2), ((0, ()), (), 0, 1, 2, 3), ((0, ()), (), 0, 1, None), None, 3,
                "clash", True, ((0, ()), (), 0, 1, -2), ((0, ()), (), 0, 1, 10 ** 20), ((0, ()), (), "0", 1, 2), (CHAIN, (), 0, 1, 2),
        ):
            self.assertFalse(is_frame_clash(TWO, 0, "x", "y", thing), thing)
        self.assertFalse(is_frame_clash(TWO, 0, "x", "r", good))
        self.assertFalse(is_frame_clash(TWO, 0, "x", "x", good))
        self.assertFalse(is_frame_clash(TWICE, 1, "a", "u", (BOTH, (0,), 0, 1, 3)))

    def test_errors_in_their_order(self):
        wide = wide_program("abcde", "")
        for call, rest in ((kept_until, ()), (kept_run, ()), (is_kept_run, (None,))):
            told = lambda *given: error_told(call, *given, *rest)
            self.assertEqual(told(wide, 2, 9, "zz"), ("NoProcedure", 2))
            self.assertEqual(told(wide, -1, 9, "zz"), ("NoProcedure", -1))
            self.assertEqual(told(wide, 1, 9, "zz"), ("NoRule", 9))
            self.assertEqual(told(wide, 1, -1, "zz"), ("NoRule", -1))
            self.assertEqual(told(wide, 1, 0, "zz"), ("NoName", "zz"))
            self.assertEqual(told(wide, 1, 0, "a"), ("TooMany",))
        for call, rest in ((frame_clash, ()), (is_frame_clash, (None,))):
            told = lambda *given: error_told(call, *given, *rest)
            self.assertEqual(told(wide, 2, "zz", "yy"), ("NoProcedure", 2))
            self.assertEqual(told(wide, 1, "zz", "yy"), ("NoName", "zz"))
            self.assertEqual(told(wide, 1, "a", "yy"), ("NoName", "yy"))
            self.assertEqual(told(wide, 1, "a", "a"), ("TooMany",))
        for visit, step in ((1, 0), (-1, 0), (0, -1), (0, 9), (10 ** 6, 0)):
            self.assertEqual(error_told(kept_at, wide, 1, 0, visit, step), ("Unfit",))
        self.assertEqual(error_told(kept_at, wide, 1, 1, 9, 9), ("NoRule", 1))
        self.assertEqual(error_told(kept_at, wide, 5, 1, 9, 9), ("NoProcedure", 5))
        self.assertEqual(error_told(drop_at, wide, 5, 1), ("NoProcedure", 5))
        self.assertEqual(error_told(drop_at, wide, 1, 1), ("NoRule", 1))
        for call in (one_frame, frame_cells):
            self.assertEqual(error_told(call, wide, 2), ("NoProcedure", 2))
        for program in (wide, wide_program("", "abcde")):
            for call in (
                    lambda: kept_at(program, 1, 0, 0, 0), lambda: drop_at(program, 0, 0), lambda: tails(program),
                    lambda: one_frame(program, 0), lambda: frame_cells(program, 0),
            ):
                with self.assertRaises(TooMany):
                    call()


class ForAllRuns(unittest.TestCase):
    def test_kept_at_every_station(self):
        for program, _, rows, most in small_programs(range(500, 507)):
            found = set()
            for tree, run in rows:
                plain_kept(program, tree, run, found)
            for procedure, rule in rules_of(program):
                stations, last = stations_in(program, procedure, rule), -1
                told = [kept_at(program, procedure, rule, *station) for station in stations]
                for name in names_of(program, procedure):
                    kept = [at for at, names in enumerate(told) if name in names]
                    plain = [at for at, station in enumerate(stations) if (procedure, rule, name, station) in found]
                    self.assertLessEqual(set(plain), set(kept))
                    # All from one station to another one.
                    self.assertEqual(kept, list(range(kept[0], kept[-1] + 1)) if kept else [])
                    until = kept_until(program, procedure, rule, name)
                    self.assertEqual(until, stations[kept[-1]] if kept else None)
                    last = max([last] + kept)
                    self.look_at_run(program, procedure, rule, name, stations, kept, most, plain)
                drop = stations[last + 1] if last + 1 < len(stations) else None
                self.assertEqual(drop_at(program, procedure, rule), drop)

    def look_at_run(self, program, procedure, rule, name, stations, kept, most, plain):
        thing = kept_run(program, procedure, rule, name)
        self.assertEqual(thing is None, not kept)
        if thing is None:
            return
        tree, path, value, event = thing
        self.assertTrue(is_tree(program, 0, tree))
        self.assertTrue(is_kept_run(program, procedure, rule, name, thing))
        self.assertEqual(node_at(program, tree, path), (procedure, rule))
        run = PlainRun(program, tree)
        self.assertEqual(in_frames(run)[(path, name)], value)
        self.assertIn(event, run.users(value))
        for at in kept:
            self.assertTrue(value < run.stood[(path,) + stations[at]] <= event)
        if nodes(tree) <= most:
            self.assertEqual(plain, kept)

    def test_tails(self):
        for program, _, _, _ in small_programs(range(510, 516)):
            told = []
            for procedure, rule in rules_of(program):
                drop = drop_at(program, procedure, rule)
                for visit, row in enumerate(program[procedure][2][rule][1]):
                    for number, step in enumerate(row):
                        if step[0] == "go" and drop is not None and (visit, number) >= drop:
                            told.append((procedure, rule, visit, number))
            self.assertEqual(tails(program), tuple(told))

    def test_clashes_and_cells(self):
        for program, _, rows, most in small_programs(range(520, 527)):
            found = set()
            for tree, run in rows:
                plain_clashes(program, tree, run, found)
            made = {event["pair"] for _, run in rows for event in run.events}
            for procedure in range(len(program)):
                names, clashing = names_of(program, procedure), set()
                for name in names:
                    for other in names:
                        thing = frame_clash(program, procedure, name, other)
                        plain = (procedure, name, other) in found or (procedure, other, name) in found
                        if name == other:
                            self.assertIsNone(thing)
                        elif plain:
                            self.assertIsNotNone(thing)
                        if thing is not None:
                            clashing.add((name, other))
                            self.look_at_clash(program, procedure, name, other, thing)
                            if nodes(thing[0]) <= most:
                                self.assertTrue(plain)
                cells = frame_cells(program, procedure)
                told = [name for cell in cells for name in cell]
                self.assertEqual(len(set(told)), len(told))
                self.assertLessEqual({name for name in names if (procedure, name) in made}, set(told))
                for cell in cells:
                    self.assertFalse(set(itertools.permutations(cell, 2)) & clashing)
                self.assertEqual(cells, self.best_cells(sorted(told), clashing))
                alone = [can_be_cell(program, ((procedure, name),)) for name in names]
                self.assertEqual(one_frame(program, procedure), all(alone))

    def look_at_clash(self, program, procedure, name, other, thing):
        tree, path, made, later, use = thing
        self.assertTrue(is_frame_clash(program, procedure, name, other, thing))
        self.assertTrue(is_frame_clash(program, procedure, other, name, thing))
        self.assertEqual(node_at(program, tree, path)[0], procedure)
        run = PlainRun(program, tree)
        values = in_frames(run)
        self.assertEqual(sorted([values[(path, name)], values[(path, other)]]), [made, later])
        self.assertTrue(made < later < use)
        self.assertIn(use, run.users(made))

    def test_values_that_are_handed_to_a_name_are_in_no_frame_there(self):
        # Here a node hands the value of its own frame on, to the same NAME of its callee.
        for seed in (8, 18, 21):
            program = handing_program(seed)
            names = names_of(program, 1)
            for rule in range(len(program[1][2])):
                for name in names:
                    until = kept_until(program, 1, rule, name)
                    self.assertEqual(kept_run(program, 1, rule, name) is None, until is None)
            clashing = {
                (name, other) for name in names for other in names
                if frame_clash(program, 1, name, other) is not None
            }
            cells = frame_cells(program, 1)
            told = sorted(name for cell in cells for name in cell)
            self.assertEqual(cells, self.best_cells(told, clashing))

    def best_cells(self, names, clashing):
        """The least of the tuples with the fewest sets."""
        found = [[]]
        for name in names:
            more = []
            for cells in found:
                more.append(cells + [[name]])
                for at, cell in enumerate(cells):
                    if not any((one, name) in clashing for one in cell):
                        more.append(cells[:at] + [cell + [name]] + cells[at + 1:])
            found = more
        return min(((len(cells), tuple(sorted(tuple(cell) for cell in cells))) for cells in found))[1]


if __name__ == "__main__":
    unittest.main()
