"""Point [18]: values written in place."""

import itertools
import unittest

from crossnest.inplace import (
    best_overs, homes_in_place, is_over_clash, may_write_over, over_clash, over_spots,
    spoilt_in_place, spots,
)
from crossnest.trees import is_tree, nodes
from tests.plain import PlainRun, node_at
from tests.samples import AGAIN, BOTH, CHAIN, DEEP, LENT, MORE, ONCE, TWICE, TWO, wide_program
from tests.small import error_told, small_programs
from tests.test_rounds import make, row_program


def step_at(program, tree, event):
    """(procedure, rule, visit, step) of an EVENT."""
    path, visit, step = event["spot"]
    return node_at(program, tree, path) + (visit, step)


def plain_clashes(program, tree, run):
    """The SPOTS whose source holds, at an EVENT, a value that is used later."""
    found = set()
    for at, event in enumerate(run.events):
        if event["pair"] is not None:
            for source, slot in enumerate(event["slots"]):
                if any(use > at for use in run.users(run.at[slot])):
                    found.add(step_at(program, tree, event) + (source,))
    return found


def plain_homes(program, tree, run, overs):
    """The homes of the values, and what each use finds amiss."""
    homes, held, many, spoilt = {}, {}, 0, []
    for at, event in enumerate(run.events):
        for value in event["uses"]:
            if held[homes[value]] != value:
                spoilt.append((at, value, held[homes[value]]))
        if event["pair"] is None:
            continue
        over = [spot[4] for spot in overs if spot[:4] == step_at(program, tree, event)]
        if over:
            homes[at] = homes[run.at[event["slots"][over[0]]]]
        else:
            homes[at], many = many, many + 1
        held[homes[at]] = at
    return tuple(homes.items()), tuple(sorted(spoilt))


def all_overs(told):
    """All OVERS of these SPOTS: one or none of each STEP."""
    steps = {}
    for spot in told:
        steps.setdefault(spot[:4], [None]).append(spot)
    for row in itertools.product(*steps.values()):
        yield tuple(spot for spot in row if spot is not None)


class Plain(unittest.TestCase):
    def test_spots(self):
        self.assertEqual(spots(ONCE), ((0, 0, 0, 1, 0),))
        self.assertEqual(spots(DEEP), ((0, 0, 0, 2, 0), (1, 0, 0, 0, 0), (1, 1, 0, 0, 0), (1, 1, 0, 2, 0), (1, 1, 0, 2, 1)))
        self.assertEqual(spots(TWICE), ((0, 0, 0, 4, 0), (0, 0, 0, 4, 1), (1, 0, 1, 0, 0)))
        # A hand has no SPOT.
        self.assertEqual(spots(LENT), ((0, 0, 0, 2, 0),))

    def test_used_at_the_same_event(self):
        # A value that is written over and used by one EVENT is read ahead of it.
        self.assertEqual(over_spots(TWO), ((0, 0, 0, 2, 0), (0, 0, 0, 2, 1)))
        program = row_program(make("x"), make("y", "x", "x"), make("r", "y"))
        self.assertEqual(over_spots(program), ((0, 0, 0, 1, 0), (0, 0, 0, 1, 1), (0, 0, 0, 2, 0)))
        self.assertEqual(best_overs(program), ((0, 0, 0, 1, 0), (0, 0, 0, 2, 0)))
        self.assertEqual(homes_in_place(program, (0, ()), best_overs(program)), ((0, 0), (1, 0), (2, 0)))

    def test_used_again(self):
        self.assertEqual(over_spots(AGAIN), ((0, 0, 0, 3, 0), (0, 0, 0, 4, 0)))
        self.assertEqual(over_clash(AGAIN, (0, 0, 0, 2, 0)), ((0, ()), 2, 4))
        self.assertEqual(homes_in_place(AGAIN, (0, ()), ()), ((0, 0), (1, 1), (2, 2), (3, 3), (4, 4)))
        self.assertEqual(spoilt_in_place(AGAIN, (0, ()), ()), ())
        self.assertEqual(spoilt_in_place(AGAIN, (0, ()), ((0, 0, 0, 2, 0),)), ((4, 0, 2),))

    def test_an_asking_is_a_use(self):
        program = ((((), ()), (("r",), ("s",)), (((), ((make("r"),), (make("s", "r"),))),)),)
        self.assertTrue(may_write_over(program, (0, 0, 1, 0, 0)))
        program = ((((),), (("r", "s"),), (((), ((make("r"), make("s", "r")),)),)),)
        self.assertFalse(may_write_over(program, (0, 0, 0, 1, 0)))
        self.assertEqual(over_clash(program, (0, 0, 0, 1, 0)), ((0, ()), 1, 2))

    def test_a_step_that_never_comes(self):
        program = (
            (((),), (("r",),), (((1,), ((("go", 0), make("r")),)),)),
            (((), ()), ((), ()), (((), ((make("x"),), (make("y", "x"), make("z", "x")))),)),
        )
        self.assertTrue(may_write_over(program, (1, 0, 1, 0, 0)))
        self.assertIsNone(over_clash(program, (1, 0, 1, 0, 0)))

    def test_what_is_handed_up(self):
        # The callee hands x up and makes w of it: w must not be written over it.
        program = (LENT[0], (LENT[1][0], LENT[1][1], (((), ((("hand", "y", "x"), make("w", "x")),)),)))
        self.assertFalse(may_write_over(program, (1, 0, 0, 1, 0)))
        self.assertEqual(over_clash(program, (1, 0, 0, 1, 0)), ((0, ((0, ()),)), 2, 3))

    def test_many_ports(self):
        program = wide_program("abcdefg", "h")
        self.assertEqual((over_spots(program), best_overs(program)), ((), ()))

    def test_is_over_clash(self):
        spot = (0, 0, 0, 1, 0)
        self.assertTrue(is_over_clash(MORE, spot, ((0, ()), 1, 2)))
        for thing in (
                ((0, ()), 2, 1), ((0, ()), 1, 1), ((0, ()), 0, 2), ((0, ()), 1, 3), ((0, ()), True, 2), ((0, ()), 1, 2, 3), ((0, ()), 1),
                [(0, ()), 1, 2], ((0, []), 1, 2), ([0, ()], 1, 2), (CHAIN, 1, 2), (None, 1, 2), ((0, ()), "1", 2), ((0, ()), 1, None),
                ((0, ()), -3, 2), ((0, ()), 1, 10 ** 20), None, True, 7, "clash", ((0, ()), (1,), 2),
        ):
            self.assertFalse(is_over_clash(MORE, spot, thing), thing)
        self.assertFalse(is_over_clash(MORE, (0, 0, 0, 2, 0), ((0, ()), 1, 2)))
        self.assertFalse(is_over_clash(MORE, (0, 0, 0, 2, 0), ((0, ()), 2, 3)))

    def test_errors_in_their_order(self):
        for call, rest in ((may_write_over, ()), (over_clash, ()), (is_over_clash, (None,))):
            told = lambda spot: error_told(call, DEEP, spot, *rest)
            self.assertEqual(told((2, 9, 9, 9, 9)), ("NoProcedure", 2))
            self.assertEqual(told((-1, 0, 0, 0, 0)), ("NoProcedure", -1))
            self.assertEqual(told((1, 2, 9, 9, 9)), ("NoRule", 2))
            self.assertEqual(told((1, -1, 0, 0, 0)), ("NoRule", -1))
            for spot in (
                    (1, 1, 0, 1, 0), (1, 1, 0, 2, 2), (1, 1, 0, 2, -1), (1, 1, 1, 0, 0), (1, 1, -1, 0, 0), (1, 1, 0, 3, 0),
                    (1, 1, 0, -1, 0), (0, 0, 0, 0, 0), (1, 1, 0, 10 ** 6, 0),
            ):
                self.assertEqual(told(spot), ("Unfit",))
            self.assertIsNone(told((1, 1, 0, 2, 1)))


class ForAllRuns(unittest.TestCase):
    def test_against_small_runs(self):
        for program, _, rows, most in small_programs(range(600, 612)):
            found = set()
            for tree, run in rows:
                found |= plain_clashes(program, tree, run)
            good = []
            for spot in spots(program):
                clash = over_clash(program, spot)
                self.assertEqual(may_write_over(program, spot), clash is None)
                if clash is None:
                    self.assertNotIn(spot, found)
                    good.append(spot)
                    continue
                self.assertTrue(is_tree(program, 0, clash[0]))
                self.assertTrue(is_over_clash(program, spot, clash))
                run = PlainRun(program, clash[0])
                event = run.events[clash[1]]
                self.assertEqual(step_at(program, clash[0], event), spot[:4])
                self.assertIn(clash[2], run.users(run.at[event["slots"][spot[4]]]))
                self.assertLess(clash[1], clash[2])
                if nodes(clash[0]) <= most:
                    self.assertIn(spot, found)
            self.assertEqual(over_spots(program), tuple(good))
            best = {}
            for spot in good:
                best.setdefault(spot[:4], spot)
            self.assertEqual(best_overs(program), tuple(best.values()))

    def test_homes_one_by_one_and_together(self):
        for program, _, rows, _ in small_programs(range(620, 630)):
            good = over_spots(program)
            best = best_overs(program)
            for overs in [best] + [(spot,) for spot in spots(program)] + list(itertools.islice(all_overs(spots(program)), 3, 6)):
                serves = set(overs) <= set(good)
                for tree, run in rows[:25]:
                    homes, spoilt = plain_homes(program, tree, run, overs)
                    self.assertEqual(homes_in_place(program, tree, overs), homes)
                    self.assertEqual(spoilt_in_place(program, tree, overs), spoilt)
                    if serves:
                        self.assertEqual(spoilt, ())
                        least = len(set(dict(homes_in_place(program, tree, best)).values()))
                        self.assertGreaterEqual(len(set(dict(homes).values())), least)
                if not serves and len(overs) == 1:
                    tree = over_clash(program, overs[0])[0]
                    self.assertNotEqual(spoilt_in_place(program, tree, overs), ())

    def test_all_that_serve_need_no_fewer_homes(self):
        for program, tree in ((DEEP, CHAIN), (TWICE, BOTH), (AGAIN, (0, ())), (MORE, (0, ()))):
            told = {
                overs: len(set(dict(homes_in_place(program, tree, overs)).values()))
                for overs in all_overs(over_spots(program))
            }
            self.assertEqual(told[best_overs(program)], min(told.values()))


if __name__ == "__main__":
    unittest.main()
