"""The whole program: what two points say of one thing is the same."""

import unittest

from crossnest.alives import alive_spot, most_alive, pump
from crossnest.board import Board
from crossnest.code import reads_due
from crossnest.engine import Engine
from crossnest.frames import one_frame
from crossnest.judge import paper_against, stands
from crossnest.layouts import cheapest, failing, is_spoiling, origins, serves
from crossnest.lots import fits, share
from crossnest.openings import least_moment
from crossnest.patterns import least_run, pairs_shown, pattern_of, takes
from crossnest.profiles import is_quick, quick_pairs
from crossnest.programs import names_of, pairs_of
from crossnest.queues import can_be_order, can_be_queue, nesting, outlasting
from crossnest.rounds import can_be_cell, can_be_round, least_round, round_clash
from crossnest.runs import events, origin_of, reads_of, step_of, value_of
from crossnest.stacks import can_be_region, can_be_stack, crossing, overstay
from crossnest.trees import paths
from tests.samples import AGAIN, ASKED, DEEP, LENT, RELAY, TWICE
from tests.small import SLIM, small_programs
from tests.test_engine import driven
from tests.test_layouts import MIXED

SAMPLES = (DEEP, TWICE, LENT, ASKED, AGAIN, RELAY, MIXED)


def programs_and_lots(seeds, **more):
    for program in SAMPLES:
        yield program, pairs_of(program)[:4]
    for program, lot, _, _ in small_programs(seeds, kinds=SLIM, rules=5, **more):
        yield program, lot


class Homes(unittest.TestCase):
    def test_cells(self):
        for program, lot in programs_and_lots(range(1700, 1705)):
            cell = pattern_of("cell", 1)
            told = can_be_cell(program, lot)
            for found in (
                    can_be_round(program, lot, 1), least_round(program, lot) == 1, not takes(program, lot, cell),
                    least_run(program, lot, cell) is None, pairs_shown(program, lot, cell) == (), round_clash(program, lot, 1) is None,
                    fits(program, "cell", lot), serves(program, "cell", 0, lot), serves(program, "round", 1, lot),
                    stands(("cell", program, lot)), stands(("round", program, lot, 1)), paper_against(("cell", program, lot)) is None,
                    failing(program, (("cell", 0, lot),)) == (), cheapest(program, lot)[0] == "cell",
            ):
                self.assertEqual(found, told)
            for one in lot:
                for other in lot:
                    two = tuple(sorted({one, other}))
                    self.assertEqual(share(program, "cell", one, other), can_be_cell(program, two))
            if is_quick(program, lot):
                for home in ("cell", "stack", "queue"):
                    self.assertEqual(quick_pairs(program, lot, home), pairs_shown(program, lot, pattern_of(home, 1)))

    def test_frames(self):
        for program, _ in programs_and_lots(range(1705, 1708)):
            for procedure in range(len(program)):
                each = [can_be_cell(program, ((procedure, name),)) for name in names_of(program, procedure)]
                self.assertEqual(one_frame(program, procedure), all(each))

    def test_the_other_homes(self):
        each = (
            ("stack", can_be_stack, crossing), ("queue", can_be_queue, nesting), ("region", can_be_region, overstay),
            ("order", can_be_order, outlasting),
        )
        for program, lot in programs_and_lots(range(1710, 1713), names=3):
            for home, can_be, paper in each:
                told = can_be(program, lot)
                for found in (
                        paper(program, lot) is None, fits(program, home, lot), serves(program, home, 0, lot),
                        stands((home, program, lot)), paper_against((home, program, lot)) is None,
                ):
                    self.assertEqual(found, told)
                if home in ("region", "order"):
                    self.assertEqual(least_moment(program, lot, home), paper(program, lot))
                if not told:
                    self.assertTrue(is_spoiling(program, home, 0, lot, paper(program, lot)))
                if can_be_cell(program, lot):
                    self.assertTrue(told)

    def test_homes_given_out(self):
        for program, lot in programs_and_lots(range(1715, 1719)):
            most = most_alive(program, lot)
            self.assertEqual(pump(program, lot) is None, most is not None)
            for many in range(5):
                told = most is not None and most <= many
                self.assertEqual(stands(("homes", program, lot, many)), told)
                self.assertEqual(alive_spot(program, lot, many + 1) is None, told)
                if many:
                    self.assertEqual(serves(program, "homes", many, lot), told)
                    if can_be_round(program, lot, many):
                        self.assertTrue(told)

    def test_rounds(self):
        for program, lot in programs_and_lots(range(1720, 1724)):
            least = least_round(program, lot)
            for many in range(1, 5):
                told = least is not None and least <= many
                self.assertEqual(serves(program, "round", many, lot), told)
                self.assertEqual(stands(("round", program, lot, many)), told)
                self.assertEqual(takes(program, lot, pattern_of("round", many)), not told)

    def test_a_board_and_a_layout(self):
        for program, lot in programs_and_lots(range(1725, 1727), names=2):
            board = Board(program)
            parts = [("round", 2, lot), ("homes", 1, lot)] + [
                (home, 0, lot) for home in ("cell", "stack", "queue", "region", "order", "heap")
            ]
            for part in parts:
                board.keep(*part)
            told = tuple(at for at, part in enumerate(parts) if not serves(program, *part))
            self.assertEqual(board.failing(), told)
            self.assertEqual(failing(program, parts), told)


class Values(unittest.TestCase):
    def test_values_of_a_run(self):
        for program, _, rows, _ in small_programs(range(1730, 1734)):
            layout = (("heap", 0, origins(program)),) if origins(program) else ()
            for tree, _ in rows[:8]:
                engine = Engine(program, layout)
                last = driven(engine, tree)
                told = events(program, tree)
                self.assertEqual(last, len(told))
                makes = [at for at in range(last) if step_of(program, tree, at)[0] == "make"]
                due = iter(reads_due(program, tree))
                outs = iter(engine.outs())
                for at, (path, _, _) in enumerate(told):
                    step = step_of(program, tree, at)
                    if step[0] == "hand":
                        self.assertEqual(reads_of(program, tree, at), ())
                        continue
                    words = step[2] if step[0] == "make" else step[1]
                    values = [value_of(program, tree, path, word, at) for word in words]
                    self.assertEqual(tuple(sorted(set(values))), reads_of(program, tree, at))
                    self.assertEqual([makes[number] for number in next(due)], values)
                    if step[0] == "ask":
                        self.assertEqual(next(outs), tuple(zip(words, values)))
                    else:
                        self.assertIn(origin_of(program, tree, at), origins(program))
                self.assertEqual(engine.kept(0) if layout else (), tuple(makes))
                self.assertIn((), paths(tree))


if __name__ == "__main__":
    unittest.main()
