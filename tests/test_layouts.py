"""Point [22]: LAYOUTS, the homes of their parts, and PAPERS against these."""

import itertools
import random
import unittest

from crossnest.alive import alive_at
from crossnest.errors import CanNot
from crossnest.layouts import (
    best_layout, cheapest, cost, failing, is_layout, is_spoiling, origins, serves, spoiling,
)
from crossnest.programs import makers, pairs_of
from crossnest.trees import is_tree, nodes
from tests.plain import PlainRun, plain_numbers
from tests.samples import (
    A, AGAIN, ASKED, BOTH, BUSH, CHAIN, CROWDED, D, DEEP, FIVE, LENT, ONCE, ROOMY, TWICE,
    wide_program,
)
from tests.small import SLIM, error_told, small_programs

ROW = [("cell", 0)] + [("round", many) for many in range(2, 7)] + [
    (home, 0) for home in ("stack", "queue", "region", "order")
] + [("homes", many) for many in range(1, 7)] + [("heap", 0)]
PATTERNS = {
    "cell": (("make", 0), ("make", 1), ("use", 0)),
    "stack": (("make", 0), ("make", 1), ("use", 0), ("use", 1)),
    "queue": (("make", 0), ("make", 1), ("use", 1), ("use", 0)),
}
SLOW, X_AND_Y = (0, ((1, ()),)), ((1, "x"), (1, "y"))

# What DEEP and TWICE do, in one PROGRAM.
MIXED = (
    (((),), (("r",),), (((2, 2, 1), ((
        ("go", 0), ("go", 1), ("go", 0), ("go", 1), ("make", (2, "d"), ()), ("go", 2), ("make", "r", ((2, "u"),)),
    ),)),)),
    DEEP[1], TWICE[1],
)


def waiting_program(many):
    """A start with so many values that wait, while its callees make nine others: a is used ahead of
    b, d ahead of c."""
    names = "abcdefg"[:many]
    row = [("make", name, ()) for name in names] + [("go", place) for place in range(3)]
    row.append(("make", "s", tuple(name for name in names if name not in "bc")))
    none = (((),), ((),))
    return (
        (((),), (("b", "c", "s"),), (((1, 1, 1), (tuple(row),)),)),
        none + ((((2, 2, 2), ((("go", 0), ("go", 1), ("go", 2)),)),),),
        none + ((((), ((("make", "y", ()),),)),),),
    )


def plain_papers(program, tree, run, home, number, lot, alive=None):
    """The numbers of all PAPERS against a home that this TREE has."""
    if home in PATTERNS or home == "round":
        pattern = PATTERNS.get(home) or (("make", 0),) + (("make", None),) * number + (("use", 0),)
        return set(plain_numbers(run, lot, pattern))
    values = [at for at, event in enumerate(run.events) if event["pair"] in lot]
    if alive is None:
        alive = [alive_at(program, tree, moment) for moment in range(len(run.events) + 1)]
    found = set()
    for moment in range(len(run.events) + 1):
        if home == "homes":
            now = [value for value in alive[moment] if value in values]
            found |= {told + (moment,) for told in itertools.combinations(now, number + 1)}
            continue
        for one, other in itertools.combinations([value for value in values if value < moment], 2):
            dead, living = (one, other) if home == "region" else (other, one)
            if dead not in alive[moment] and living in alive[moment]:
                if home == "order" or one in alive[other + 1]:
                    found.add((one, other, moment))
    return found


class Plain(unittest.TestCase):
    def test_origins(self):
        self.assertEqual(origins(LENT), ((0, "r"), (1, "x"), (1, "y")))
        self.assertEqual(origins(((((),), ((),), (((), ((),)),)),)), ())
        for program in (DEEP, TWICE, LENT, FIVE, BUSH, CROWDED):
            told = tuple(pair for pair in pairs_of(program) if makers(program, *pair))
            self.assertEqual(origins(program), told)

    def test_is_layout(self):
        x, r = (0, "x"), (0, "r")
        for thing in (
                (("cell", 0, (r, x)),), (("heap", 0, (x,)), ("heap", 0, (r,))), (("round", 1, (r,)), ("homes", 6, (x,))),
                (("region", 0, (r,)), ("order", 0, (x,))), (("stack", 0, (r,)), ("queue", 0, (x,))), (("round", 6, (r, x)),),
        ):
            self.assertTrue(is_layout(ONCE, thing), thing)
        for thing in (
                (), (("cell", 0, (x, r)),), (("cell", 0, (r,)),), (("cell", 0, (r, x)), ("heap", 0, (x,))), (("cell", 1, (r, x)),),
                (("round", 0, (r, x)),), (("round", 7, (r, x)),), (("homes", 0, (r, x)),), (("homes", 7, (r, x)),),
                (("heap", 1, (r, x)),), (("cell", False, (r, x)),), (("round", True, (r, x)),), (("shelf", 0, (r, x)),),
                (("cell", 0, (r, x)), ("heap", 0, ())), (("cell", 0, (r, r, x)),), (("cell", 0, (r, x, x)),),
                [("cell", 0, (r, x))], (["cell", 0, (r, x)],), (("cell", 0, [r, x]),), (("cell", 0, ([0, "r"], x)),),
                (("cell", 0, ((False, "r"), x)),), (("cell", 0, ((0, "r"), (0, "x"), (0, "y"))),), ("cell", 0, (r, x)),
                (("cell", 0),), (("cell", 0, (r, x), 0),), (("cell", -1, (r, x)),), (("cell", None, (r, x)),), None, True, 5,
                "cell", (None,), (("cell", 0, "rx"),), (("cell", 0, None),), ((0, 0, (r, x)),), (("round", 10 ** 30, (r, x)),),
                (("cell", 0, ((0, "r"), (0, None))),), (("cell", 0, ((0, "r"), ("a", "x"))),), (("cell", 0, (r, x)),) * 7,
        ):
            self.assertFalse(is_layout(ONCE, thing), thing)
        # A pair that no make STEP makes stands in no part.
        whole = (("heap", 0, origins(LENT)),)
        self.assertTrue(is_layout(LENT, whole))
        self.assertFalse(is_layout(AGAIN, (("cell", 0, ((0, "p"), (0, "q"), (0, "r"), (0, "x"), (0, "y"), (0, "z"))),)))

    def test_as_many_parts_as_may_be(self):
        pairs = [((0, name),) for name in "abcder"]
        for many in (5, 6):
            parts = tuple(("cell", 0, lot) for lot in pairs[:many])
            parts = parts[:-1] + (("cell", 0, parts[-1][2] + tuple(pair for lot in pairs[many:] for pair in lot)),)
            self.assertTrue(is_layout(FIVE, parts))
        seven = ((((),), (("r",),), (((), (tuple(("make", name, ()) for name in "abcdefr"),)),)),)
        self.assertFalse(is_layout(seven, tuple(("cell", 0, ((0, name),)) for name in "abcdefr")))
        self.assertTrue(is_layout(seven, tuple(("cell", 0, ((0, name),)) for name in "abcde") + (("cell", 0, ((0, "f"), (0, "r"))),)))

    def test_papers_of_twice(self):
        self.assertEqual(spoiling(TWICE, "stack", 0, A), (BOTH, (0, 1, 2, 3)))
        for home, numbers in (
                ("cell", ((0, 1, 2),)), ("stack", ((0, 1, 2, 3),)), ("region", ((0, 1, 3),)),
        ):
            for numbers in numbers:
                self.assertTrue(is_spoiling(TWICE, home, 0, A, (BOTH, numbers)))
        self.assertTrue(is_spoiling(TWICE, "round", 1, A, (BOTH, (0, 1, 2))))
        self.assertTrue(is_spoiling(TWICE, "homes", 1, A, (BOTH, (0, 1, 2))))
        for home, number, numbers in (
                ("cell", 0, (0, 1, 3)), ("cell", 0, (1, 0, 2)), ("stack", 0, (0, 1, 3, 2)), ("queue", 0, (0, 1, 2, 3)),
                ("round", 2, (0, 1, 2)), ("region", 0, (0, 1, 2)), ("region", 0, (0, 1, 4)), ("region", 0, (0, 1, 9)),
                ("order", 0, (0, 1, 3)), ("homes", 1, (0, 1, 1)), ("homes", 1, (0, 1, 3)), ("homes", 2, (0, 1, 2)),
                ("homes", 1, (1, 0, 2)), ("homes", 1, (0, 0, 2)), ("homes", 1, (0, 2, 3)), ("heap", 0, (0, 1, 2)),
                ("homes", 1, (0, 1, 99)), ("homes", 1, (-1, 1, 2)), ("homes", 1, (0, 1)), ("heap", 0, ()),
        ):
            self.assertFalse(is_spoiling(TWICE, home, number, A, (BOTH, numbers)), (home, numbers))
        for home, number in (("cell", 0), ("round", 1), ("stack", 0), ("region", 0), ("order", 0), ("homes", 1), ("heap", 0)):
            for thing in (
                    None, True, 0, "ab", (), (BOTH,), (BOTH, None), (BOTH, (0, 1, "2")), [BOTH, (0, 1, 2)], (BOTH, [0, 1, 2]),
                    (CHAIN, (0, 1, 2)), (None, (0, 1, 2)), ((0, ()), (0, 1, 2)), (BOTH, (False, True, 2)), (BOTH, (0, 1, 2), 0),
                    (BOTH, (0, 1, 10 ** 30)), ((0, [(0, ()), (0, ())]), (0, 1, 2)), (BOTH, (0, None, 2)),
            ):
                self.assertFalse(is_spoiling(TWICE, home, number, A, thing), (home, thing))

    def test_cheapest(self):
        self.assertEqual(cheapest(DEEP, D), ("stack", 0))
        self.assertEqual(cheapest(TWICE, A), ("round", 2))
        self.assertEqual(cheapest(DEEP, ()), ("cell", 0))
        self.assertEqual(cheapest(ASKED, X_AND_Y), ("round", 2))
        for program in (DEEP, TWICE, LENT, ASKED, AGAIN, BUSH):
            for pair in pairs_of(program):
                found = cheapest(program, (pair,))
                self.assertEqual(found, next(home for home in ROW if serves(program, *home, (pair,))))

    def test_the_end_of_the_row(self):
        # d nests without end, each a crosses another one: no home but a heap serves both.
        self.assertEqual(cheapest(MIXED, ((1, "d"),)), ("stack", 0))
        self.assertEqual(cheapest(MIXED, ((2, "a"),)), ("round", 2))
        both = ((1, "d"), (2, "a"))
        self.assertEqual(cheapest(MIXED, both), ("heap", 0))
        self.assertEqual([home for home in ROW if serves(MIXED, *home, both)], [("heap", 0)])

    def test_rounds_and_homes_of_six(self):
        for many, found in ((5, ("round", 5)), (6, ("round", 6)), (7, ("stack", 0))):
            row = [("make", name, ()) for name in "abcdefg"[:many]] + [("make", "r", ("a",))]
            program = ((((),), (("r",),), (((), (tuple(row),)),)),)
            lot = tuple((0, name) for name in "abcdefg"[:many])
            self.assertEqual(cheapest(program, lot), found)
        # Many y, dead at once, are made while the others wait, which are used in no order at all.
        for many, found in ((5, ("homes", 5)), (6, ("homes", 6)), (7, ("heap", 0))):
            self.assertEqual(cheapest(waiting_program(many), tuple((0, name) for name in "abcdefg"[:many]) + ((2, "y"),)), found)

    def test_best_layout_and_cost(self):
        lots = (((0, "r"),), A, ((1, "u"),))
        found = best_layout(TWICE, lots)
        self.assertEqual([part[2] for part in found], list(lots))
        self.assertTrue(is_layout(TWICE, found))
        self.assertEqual(best_layout(TWICE, lots[::-1]), found[::-1])
        self.assertEqual(best_layout(((((),), ((),), (((), ((),)),)),), ()), ())
        for lots in ((), (((0, "r"),), A), (((0, "r"),), A, ((1, "u"),), ()), (((0, "r"),), A + A, ((1, "u"),)),
                     (((0, "r"),), A, ((1, "u"),), A), (((0, "r"), (1, "a")), A, ((1, "u"),)), (((1, "u"), (0, "r")), A)):
            self.assertEqual(error_told(best_layout, TWICE, lots), ("Unfit",))
        self.assertEqual(cost(()), (0, 0, 0))
        self.assertEqual(cost(tuple((home, number, A) for home, number in (
            ("cell", 0), ("round", 4), ("homes", 3), ("heap", 0), ("stack", 0), ("heap", 0),
        ))), (2, 1, 8))
        self.assertEqual(cost((("queue", 0, A), ("region", 0, A), ("order", 0, A), ("round", 1, A))), (0, 3, 1))

    def test_failing(self):
        layout = (("stack", 0, A), ("queue", 0, ((0, "r"),)), ("homes", 1, ((1, "u"),)))
        self.assertEqual(failing(TWICE, layout), (0, 2))
        self.assertEqual(failing(TWICE, ()), ())
        self.assertEqual(failing(TWICE, (("heap", 0, ((0, "r"), (1, "a"), (1, "u"))),)), ())

    def test_what_serves_has_no_paper(self):
        for home, number in (("queue", 0), ("order", 0), ("round", 2), ("homes", 2), ("heap", 0)):
            self.assertEqual(error_told(spoiling, TWICE, home, number, A), ("CanNot",))

    def test_too_many(self):
        wide = wide_program("abcde", "")
        lot = ((1, "a"),)
        for home, number in ROW:
            if home not in ("homes", "heap"):
                self.assertEqual(error_told(serves, wide, home, number, lot), ("TooMany",))
                self.assertEqual(error_told(spoiling, wide, home, number, lot), ("TooMany",))
                self.assertEqual(error_told(failing, wide, ((home, number, lot),)), ("TooMany",))
                self.assertFalse(is_spoiling(wide, home, number, lot, None))
        self.assertTrue(serves(wide, "heap", 0, lot))
        self.assertEqual(error_told(spoiling, wide, "heap", 0, lot), ("CanNot",))
        self.assertEqual(error_told(cheapest, wide, lot), ("TooMany",))
        self.assertEqual(error_told(best_layout, wide, (lot,)), ("Unfit",))
        self.assertEqual(error_told(best_layout, wide, (origins(wide),)), ("TooMany",))

    def test_too_many_of_papers(self):
        tree, lot = (0, ((0, ()),)), ((1, "a"), (1, "b"))
        numbers = {"region": (0, 1, 3), "order": (0, 1, 3), "homes": (0, 1, 3)}
        for home, told in numbers.items():
            number = 1 if home == "homes" else 0
            self.assertEqual(error_told(is_spoiling, CROWDED, home, number, lot, (tree, told)), ("TooMany",))
            self.assertIsNone(error_told(is_spoiling, ROOMY, home, number, lot, (tree, told)))
            self.assertIs(is_spoiling(CROWDED, home, number, lot, (tree, told[:-1])), False)
        for home, told in (("cell", (0, 1, 5)), ("stack", (0, 1, 4, 5)), ("queue", (0, 1, 4, 5))):
            self.assertIsNone(error_told(is_spoiling, CROWDED, home, 0, lot, (tree, told)))


class ForAllRuns(unittest.TestCase):
    def look(self, program, lot, rows, most, homes):
        """Each home that serves is spoilt in none of these RUNS; each PAPER told is one."""
        for home, number in homes:
            found = None
            for tree, run in rows:
                if home != "heap" and found is None and plain_papers(program, tree, run, home, number, lot):
                    found = nodes(tree)
            try:
                paper = spoiling(program, home, number, lot)
            except CanNot:
                paper = None
            self.assertEqual(serves(program, home, number, lot), paper is None, (home, number))
            if paper is None:
                self.assertIsNone(found)
                continue
            tree, numbers = paper
            self.assertTrue(is_tree(program, 0, tree))
            self.assertIn(numbers, plain_papers(program, tree, PlainRun(program, tree), home, number, lot))
            self.assertTrue(is_spoiling(program, home, number, lot, paper))
            if found is None:
                self.assertGreater(nodes(tree), most)

    def test_homes_with_patterns(self):
        for program, lot, rows, most in small_programs(range(1100, 1108)):
            homes = [("cell", 0), ("round", 1), ("round", 2), ("stack", 0), ("queue", 0), ("heap", 0)]
            self.look(program, lot, rows[:60], min(most, nodes(rows[:60][-1][0]) - 1) if rows else most, homes)

    def test_the_other_homes(self):
        spoilt = 0
        for program, lot, rows, most in small_programs(range(1110, 1116), kinds=SLIM, rules=5):
            few = rows[:15]
            self.look(program, lot, few, nodes(few[-1][0]) - 1 if few else most, [
                ("region", 0), ("order", 0), ("homes", 1), ("homes", 2),
            ])
            spoilt += not serves(program, "homes", 1, lot)
            home = cheapest(program, lot)
            self.assertEqual(home, next(told for told in ROW if serves(program, *told, lot)))
        self.assertGreater(spoilt, 4)

    def test_is_spoiling(self):
        chance = random.Random(5)
        for program, lot, rows, _ in small_programs(range(1120, 1124), kinds=SLIM, rules=5, names=3):
            for tree, run in rows[:4]:
                most = len(run.events) + 1
                alive = [alive_at(program, tree, moment) for moment in range(most)]
                for home, number, many in (
                        ("cell", 0, 3), ("round", 2, 4), ("stack", 0, 4), ("queue", 0, 4), ("region", 0, 3),
                        ("order", 0, 3), ("homes", 1, 3), ("homes", 2, 4),
                ):
                    good = plain_papers(program, tree, run, home, number, lot, alive)
                    some = {tuple(sorted(chance.choices(range(most + 1), k=many))) for _ in range(12)}
                    for numbers in sorted(good)[:8] + sorted(some):
                        self.assertEqual(
                            is_spoiling(program, home, number, lot, (tree, numbers)), numbers in good, (home, numbers))

    def test_lots_within_and_of_two_pairs(self):
        for program, lot, _, _ in small_programs(range(1130, 1133), kinds=SLIM, rules=5, names=3):
            for home, number in (("cell", 0), ("stack", 0), ("queue", 0), ("region", 0), ("order", 0), ("round", 2), ("homes", 1)):
                told = serves(program, home, number, lot)
                two = [serves(program, home, number, part) for many in (1, 2) for part in itertools.combinations(lot, many)]
                if told:
                    self.assertTrue(all(two))
                elif home not in ("round", "homes"):
                    self.assertFalse(all(two))


if __name__ == "__main__":
    unittest.main()
