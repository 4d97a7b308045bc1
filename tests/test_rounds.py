"""Point [11]: cells and rounds of cells."""

import unittest

from crossnest.patterns import pairs_shown, pattern_of, takes
from crossnest.rounds import (
    can_be_cell, can_be_round, is_round_clash, least_round, round_clash, spans, spoilt,
)
from crossnest.trees import is_tree, nodes
from tests.plain import PlainRun, plain_spans
from tests.samples import A, AGAIN, BOTH, CHAIN, D, DEEP, LENT, ONCE, TWICE, wide_program
from tests.small import small_programs


def row_program(*steps):
    """A start with one row, which makes r last."""
    return ((((),), (("r",),), (((), (tuple(steps),)),)),)


def make(name, *words):
    return "make", name, words


# x waits while eight others are made.
LONG = row_program(make("x"), make("a"), make("b"), make("c"), make("d"), make("e"), make("f"), make("r", "x"))
# No PROCEDURE has more than 8 NAMES: one local, made by one node behind the other, is enough.
MANY = (
    (((),), (("r",),), (((1, 1, 1), ((
        make("x"), make((0, "i"), "x"), ("go", 0), make((1, "i")), ("go", 1), make((2, "i")), ("go", 2), make("r", "x"),
    ),)),)),
    ((("i",),), ((),), (((2, 2, 2), ((("go", 0), ("go", 1), ("go", 2)),)),)),
    (((),), ((),), (((), ((make("y"),),)),)),
)


def plain_spoilt(run, lot, many):
    """A round, cell by cell."""
    cells, place, found = {}, {}, []
    for at, event in enumerate(run.events):
        for value in event["uses"]:
            if value in place and cells[place[value]] != value:
                found.append((at, value, cells[place[value]]))
        if event["pair"] in lot:
            place[at] = len(place) % many
            cells[place[at]] = at
    return tuple(sorted(found))


class Plain(unittest.TestCase):
    def test_edges(self):
        tree = (0, ())
        lot = ((0, "p"), (0, "x"), (0, "y"))
        # p is never used; x is used twice: the last use counts.
        self.assertEqual(spans(AGAIN, tree, lot), ((0, 4, 2), (1, 3, 1), (2, None, 0)))
        self.assertEqual(spans(AGAIN, tree, ((0, "p"),)), ((2, None, 0),))
        self.assertEqual(spans(AGAIN, tree, ()), ())
        self.assertEqual(spoilt(AGAIN, tree, lot, 1), ((2, 0, 1), (3, 1, 2), (4, 0, 2)))
        self.assertEqual(spoilt(AGAIN, tree, lot, 2), ((4, 0, 2),))
        self.assertEqual(spoilt(AGAIN, tree, lot, 3), ())
        self.assertEqual(least_round(AGAIN, lot), 3)
        # An EVENT that uses one and makes one reads ahead of it.
        self.assertEqual(least_round(ONCE, ((0, "r"), (0, "x"))), 1)
        for program in (ONCE, DEEP, TWICE, LENT):
            self.assertEqual(least_round(program, ()), 1)
            self.assertTrue(can_be_cell(program, ()))
            self.assertIsNone(round_clash(program, (), 1))

    def test_never_used_is_no_span(self):
        program = row_program(make("x"), make("y"), make("r", "y"))
        self.assertTrue(can_be_cell(program, ((0, "x"), (0, "y"))))
        self.assertEqual(spans(program, (0, ()), ((0, "x"), (0, "y"))), ((0, None, 0), (1, 2, 0)))

    def test_several_values_used_by_one_event(self):
        program = row_program(make("x"), make("y"), make("r", "y", "x", "y"))
        lot = ((0, "x"), (0, "y"))
        self.assertEqual(spoilt(program, (0, ()), lot, 1), ((2, 0, 1),))
        self.assertEqual(least_round(program, lot), 2)

    def test_above_the_bound(self):
        lot = tuple((0, name) for name in "abcdefrx")
        self.assertEqual(least_round(LONG, lot), 7)
        self.assertFalse(can_be_round(LONG, lot, 6))
        self.assertTrue(can_be_round(LONG, lot, 7))
        self.assertTrue(can_be_round(LONG, lot, 10 ** 6))
        self.assertEqual(round_clash(LONG, lot, 6), ((0, ()), 0, 7))
        self.assertIsNone(round_clash(LONG, lot, 7))
        self.assertEqual(least_round(MANY, ((0, "x"), (1, "i"), (2, "y"))), 13)
        self.assertEqual(round_clash(MANY, ((0, "x"), (2, "y")), 9)[1:], (0, 13))

    def test_none(self):
        self.assertIsNone(least_round(DEEP, D))
        for many in (1, 2, 6, 9):
            self.assertFalse(can_be_round(DEEP, D, many))
            tree, made, use = round_clash(DEEP, D, many)
            self.assertTrue(is_tree(DEEP, 0, tree))
            self.assertIn((made, use, nodes(tree) - 2 - made), plain_spans(PlainRun(DEEP, tree), D))
            self.assertTrue(is_round_clash(DEEP, D, many, (tree, made, use)))

    def test_many_ports(self):
        # No bound of INS or OUTS is asked here.
        program = wide_program("abcdefg", "h")
        lot = tuple((1, name) for name in "abcdefgh")
        self.assertEqual(least_round(program, lot), 1)
        self.assertTrue(can_be_cell(wide_program("", "abcde"), ((1, "a"), (1, "e"))))

    def test_is_round_clash(self):
        self.assertTrue(is_round_clash(DEEP, D, 1, (CHAIN, 0, 3)))
        self.assertTrue(is_round_clash(TWICE, A, 1, (BOTH, 0, 2)))
        for thing in (
                (CHAIN, 1, 2), (CHAIN, 0, 1), (CHAIN, 0, 4), (CHAIN, 3, 0), (CHAIN, 0, 6), (CHAIN, -6, 3),
                (CHAIN, 0, -3), (CHAIN, 0), (CHAIN, 0, 3, 3), (CHAIN, (0, 3)), [CHAIN, 0, 3], (list(CHAIN), 0, 3),
                (CHAIN, False, 3), (CHAIN, 0, True), (CHAIN, None, 3), (CHAIN, "0", 3), (BOTH, 0, 3), ((), 0, 3),
                (CHAIN, 2, 3), (CHAIN, 0, 10 ** 9), (None, 0, 3), (0, 0, 3), 7, "clash", None, True,
        ):
            self.assertFalse(is_round_clash(DEEP, D, 1, thing), thing)
        self.assertFalse(is_round_clash(DEEP, D, 2, (CHAIN, 0, 3)))
        self.assertFalse(is_round_clash(DEEP, ((1, "u"),), 1, (CHAIN, 0, 3)))


class ForAllRuns(unittest.TestCase):
    def test_against_small_runs(self):
        for program, lot, rows, _ in small_programs(range(40, 60)):
            least = least_round(program, lot)
            for tree, run in rows:
                found = plain_spans(run, lot)
                told = []
                for at, event in enumerate(run.events):
                    if event["pair"] in lot:
                        told.append(([(at, None, 0)] + [span for span in found if span[0] == at])[-1])
                self.assertEqual(spans(program, tree, lot), tuple(told))
                for many in (1, 2, 3):
                    self.assertEqual(spoilt(program, tree, lot, many), plain_spoilt(run, lot, many))
                    if least is not None and many >= least:
                        self.assertEqual(spoilt(program, tree, lot, many), ())
                for made, use, span in found:
                    for many in (1, 2, 4):
                        told = is_round_clash(program, lot, many, (tree, made, use))
                        self.assertEqual(told, span >= many)

    def test_clashes(self):
        for program, lot, _, _ in small_programs(range(60, 85)):
            least = least_round(program, lot)
            self.assertEqual(can_be_cell(program, lot), least == 1)
            for many in (1, 2, 3, 6, 8):
                serves = least is not None and least <= many
                self.assertEqual(can_be_round(program, lot, many), serves)
                self.assertEqual(takes(program, lot, pattern_of("round", many)), not serves)
                clash = round_clash(program, lot, many)
                self.assertEqual(clash is None, serves)
                if clash is not None:
                    self.assertTrue(is_tree(program, 0, clash[0]))
                    told = plain_spans(PlainRun(program, clash[0]), lot)
                    self.assertTrue(any((made, use) == clash[1:] and span >= many for made, use, span in told))
            # The greatest span comes: a round of one cell less is spoilt.
            if least is not None and least > 1:
                tree = round_clash(program, lot, least - 1)[0]
                self.assertNotEqual(plain_spoilt(PlainRun(program, tree), lot, least - 1), ())
                self.assertEqual(plain_spoilt(PlainRun(program, tree), lot, least), ())

    def test_a_cell_serves_by_twos(self):
        for program, lot, _, _ in small_programs(range(85, 100)):
            shown = pairs_shown(program, lot, pattern_of("cell", 1))
            self.assertEqual(can_be_cell(program, lot), shown == ())
            twos = [tuple(sorted({one, other})) for one in lot for other in lot]
            self.assertEqual(can_be_cell(program, lot), all(can_be_cell(program, two) for two in twos))


if __name__ == "__main__":
    unittest.main()
