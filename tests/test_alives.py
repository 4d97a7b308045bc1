"""Point [15]: how many values are alive at once, and homes given out as one goes."""

import random
import unittest

from crossnest.alive import alive_at, most_alive_in
from crossnest.alives import (
    alive_spot, counts, grant, homes_given, is_alive_spot, is_grant, is_homes, most_alive,
    most_left, pump,
)
from crossnest.programs import pairs_of
from crossnest.trees import is_tree, paths, procedure_of, pumped
from tests.plain import PlainRun, plain_alive, plain_trees, trees_by_depth
from tests.samples import (
    A, AGAIN, ASKED, BOTH, BUSH, CHAIN, D, DEEP, LENT, ONCE, TWICE, YOUNG, chain_of,
)
from tests.small import SLIM, error_told, small_programs

SLOW = (0, ((1, ()),))


def plain_counts(run, lot, alive):
    """How many values of the lot are alive at each MOMENT, alive telling which are."""
    return [sum(run.events[value]["pair"] in lot for value in row) for row in alive]


def moments_of(program, tree):
    """For each MOMENT the values alive."""
    return [alive_at(program, tree, moment) for moment in range(len(PlainRun(program, tree).events) + 1)]


def plain_left(program, tree, lot, alive):
    """By (procedure, visits): the greatest number that a node which is left has left alive."""
    run, found = PlainRun(program, tree), {}
    for moment in range(1, len(run.events) + 1):
        last = run.events[moment - 1]["spot"][0]
        for path in paths(tree)[1:]:
            if last[:len(path)] == path:
                continue
            gone = sum(at < moment for at in run.goes.get(path, []))
            if gone == 0:
                continue
            left = sum(
                run.events[value]["spot"][0][:len(path)] == path and run.events[value]["pair"] in lot
                for value in alive[moment]
            )
            mark = (procedure_of(program, tree, path), gone)
            found[mark] = max(found.get(mark, 0), left)
    return found


class Plain(unittest.TestCase):
    def test_counts(self):
        self.assertEqual(counts(DEEP, CHAIN, D), [0, 1, 2, 1, 0, 0, 0])
        self.assertEqual(counts(AGAIN, (0, ()), pairs_of(AGAIN)), [0, 1, 2, 2, 1, 1, 0])
        self.assertEqual(counts(ONCE, (0, ()), ()), [0, 0, 0, 0])
        self.assertEqual(counts(ASKED, SLOW, ((1, "x"), (1, "y"))), [0, 1, 2, 1, 0, 0, 0])

    def test_greatest_numbers(self):
        self.assertIsNone(most_alive(DEEP, D))
        self.assertEqual(most_alive(DEEP, ((1, "u"),)), 1)
        self.assertEqual(most_alive(TWICE, A), 2)
        self.assertEqual(most_alive(LENT, ((1, "x"), (1, "y"))), 1)
        self.assertEqual(most_alive(AGAIN, ((0, "p"),)), 0)
        self.assertEqual(most_alive(AGAIN, ((0, "p"), (0, "x"), (0, "y"))), 2)
        self.assertIsNone(most_alive(BUSH, A))
        for program in (ONCE, DEEP, TWICE, LENT):
            self.assertEqual(most_alive(program, ()), 0)
            self.assertIsNone(pump(program, ()))

    def test_spots(self):
        for many in (1, 2, 7, 40):
            tree, number = alive_spot(DEEP, D, many)
            self.assertTrue(is_tree(DEEP, 0, tree))
            self.assertGreaterEqual(counts(DEEP, tree, D)[number], many)
            self.assertTrue(is_alive_spot(DEEP, D, many, (tree, number)))
        self.assertIsNone(alive_spot(TWICE, A, 3))
        self.assertIsNone(alive_spot(DEEP, ((1, "u"),), 2))
        for thing in (
                (CHAIN, 3), (CHAIN, 7), (CHAIN, 10 ** 9), (CHAIN, -5), (CHAIN, True), (CHAIN, None), (CHAIN, "2"), (CHAIN,),
                (CHAIN, 2, 2), [CHAIN, 2], (list(CHAIN), 2), (BOTH, 2), (2, CHAIN), ((0, ()), 2), (None, 2), 2, "spot", None,
                True, (CHAIN, (2,)),
        ):
            self.assertFalse(is_alive_spot(DEEP, D, 2, thing), thing)
        self.assertTrue(is_alive_spot(DEEP, D, 1, (CHAIN, 1)))

    def test_wishes(self):
        self.assertEqual(grant(DEEP, ()), ((0, ((0, ()),)), 0))
        self.assertIsNone(grant(TWICE, ((1, "a", 2), (1, "u", 1))))
        self.assertIsNone(grant(AGAIN, ((0, "p", 1),)))
        for wishes in (
                ((1, "d", 40),), ((1, "d", 40), (1, "u", 1)), ((1, "a", 40), (1, "u", 30)), ((1, "a", 1), (1, "u", 1)),
        ):
            program = DEEP if wishes[0][1] == "d" else BUSH
            spot = grant(program, wishes)
            self.assertTrue(is_grant(program, wishes, spot))
            for at, name, many in wishes:
                self.assertGreaterEqual(counts(program, spot[0], ((at, name),))[spot[1]], many)
        self.assertIsNone(grant(DEEP, ((1, "d", 1), (1, "u", 2))))
        wishes = ((1, "a", 1), (1, "u", 1))
        self.assertTrue(is_grant(TWICE, wishes, (BOTH, 3)))
        self.assertTrue(is_grant(TWICE, (), (BOTH, 6)))
        for thing in (
                (BOTH, 2), (BOTH, 4), (BOTH, 8), (BOTH, -4), (BOTH, True), (CHAIN, 3), [BOTH, 3], (BOTH, 3, 0), (BOTH,),
                (BOTH, "3"), 3, "grant", None, True, (BOTH, [3]), (None, 3),
        ):
            self.assertFalse(is_grant(TWICE, wishes, thing), thing)

    def test_homes(self):
        self.assertEqual(homes_given(AGAIN, (0, ()), pairs_of(AGAIN)), ((0, 0), (1, 1), (2, None), (3, None), (4, 0)))
        self.assertEqual(homes_given(DEEP, CHAIN, D), ((0, 0), (1, 1)))
        self.assertEqual(homes_given(DEEP, CHAIN, ()), ())
        self.assertTrue(is_homes(DEEP, CHAIN, (), ()))
        self.assertTrue(is_homes(AGAIN, (0, ()), ((0, "p"), (0, "x")), ((0, 5), (2, None))))
        for thing in (
                ((0, 5), (2, 0)), ((0, None), (2, None)), ((0, 5),), ((0, 5), (2, None), (3, None)), ((0, -1), (2, None)),
                ((2, None), (0, 5)), ((0, True), (2, None)), ((False, 5), (2, None)), ((0, "5"), (2, None)), [(0, 5), (2, None)],
                ([0, 5], (2, None)), ((0, 5, 5), (2, None)), (0, 2), (), None, True, 5, "homes", ((1, 5), (2, None)),
                ((0, (5,)), (2, None)),
        ):
            self.assertFalse(is_homes(AGAIN, (0, ()), ((0, "p"), (0, "x")), thing), thing)
        self.assertFalse(is_homes(TWICE, BOTH, A, ((0, 1), (1, 1))))
        self.assertTrue(is_homes(TWICE, BOTH, A, ((0, 10 ** 30), (1, 1))))
        # A home is free for what is made by the last use of what had it.
        self.assertTrue(is_homes(ONCE, (0, ()), ((0, "r"), (0, "x")), ((0, 3), (1, 3))))

    def test_most_left(self):
        self.assertEqual(most_left(TWICE, A, 1, 1), 1)
        self.assertEqual(most_left(TWICE, A, 1, 2), 0)
        self.assertEqual(most_left(TWICE, pairs_of(TWICE), 1, 2), 1)
        for visits in (3, 40):
            self.assertEqual(most_left(TWICE, pairs_of(TWICE), 1, visits), 0)
        self.assertEqual(most_left(TWICE, pairs_of(TWICE), 0, 1), 0)
        self.assertIsNone(most_left(BUSH, A, 1, 1))
        self.assertEqual(most_left(BUSH, A, 1, 2), 0)
        self.assertEqual(most_left(DEEP, pairs_of(DEEP), 1, 1), 0)

    def test_pumps(self):
        for program, lot in ((DEEP, D), (BUSH, A), (DEEP, pairs_of(DEEP))):
            tree, path, below = pump(program, lot)
            for many in (1, 2, 3, 6):
                told = pumped(program, tree, path, below, many)
                self.assertGreaterEqual(most_alive_in(program, told, lot)[0], many)
        self.assertIsNone(pump(TWICE, A))

    def test_errors_pair_by_pair(self):
        calls = (
            lambda lot: counts(TWICE, BOTH, lot), lambda lot: most_alive(TWICE, lot),
            lambda lot: alive_spot(TWICE, lot, 1), lambda lot: is_alive_spot(TWICE, lot, 1, None),
            lambda lot: homes_given(TWICE, BOTH, lot), lambda lot: is_homes(TWICE, BOTH, lot, None),
            lambda lot: most_left(TWICE, lot, 9, 1), lambda lot: pump(TWICE, lot),
            lambda lot: grant(TWICE, [pair + (1,) for pair in lot]),
            lambda lot: is_grant(TWICE, [pair + (1,) for pair in lot], None),
        )
        for call in calls:
            self.assertEqual(error_told(call, ((0, "zz"), (7, "a"))), ("NoName", "zz"))
            self.assertEqual(error_told(call, ((0, "r"), (7, "zz"))), ("NoProcedure", 7))
            self.assertEqual(error_told(call, ((-1, "zz"), (0, "zz"))), ("NoProcedure", -1))
            self.assertEqual(error_told(call, ((1, "a"), (1, "r"))), ("NoName", "r"))
        self.assertEqual(error_told(most_left, TWICE, A, 2, 1), ("NoProcedure", 2))
        self.assertEqual(error_told(most_left, TWICE, A, -1, 1), ("NoProcedure", -1))


class ForAllRuns(unittest.TestCase):
    def test_against_small_runs(self):
        for program, lot, rows, most in small_programs(range(300, 316), SLIM, 5):
            rows = [row for row in rows if len(row[1].events) < 60][:40]
            chance = random.Random(len(rows))
            pairs = pairs_of(program)
            wishes = [pair + (chance.choice([1, 1, 2]),) for pair in chance.sample(pairs, min(len(pairs), chance.randint(1, 3)))]
            best, granted, left = 0, False, {}
            for tree, run in rows:
                alive = moments_of(program, tree)
                told = plain_counts(run, lot, alive)
                self.assertEqual(counts(program, tree, lot), told)
                best = max(best, max(told))
                self.look_at_homes(program, tree, run, lot, alive)
                each = [plain_counts(run, (wish[:2],), alive) for wish in wishes]
                for moment in range(len(alive)):
                    good = all(row[moment] >= wish[2] for row, wish in zip(each, wishes))
                    self.assertEqual(is_grant(program, wishes, (tree, moment)), good)
                    granted = granted or good
                for mark, many in plain_left(program, tree, lot, alive).items():
                    left[mark] = max(left.get(mark, 0), many)
            self.look_at_greatest(program, lot, best)
            spot = grant(program, wishes)
            if granted:
                self.assertIsNotNone(spot)
            if spot is not None:
                for at, name, many in wishes:
                    self.assertGreaterEqual(counts(program, spot[0], ((at, name),))[spot[1]], many)
            for procedure in range(len(program)):
                for visits in (1, 2):
                    told = most_left(program, lot, procedure, visits)
                    if told is not None:
                        self.assertGreaterEqual(told, left.get((procedure, visits), 0))
                        most = most_alive(program, lot)
                        self.assertTrue(most is None or told <= most)

    def look_at_homes(self, program, tree, run, lot, alive):
        told = {}
        for value in range(len(run.events)):
            if run.events[value]["pair"] in lot:
                now = [other for other in alive[value + 1] if other in told]
                taken = [told[other] for other in now if other != value]
                free = min(home for home in range(len(taken) + 1) if home not in taken)
                told[value] = free if value in alive[value + 1] else None
        self.assertEqual(homes_given(program, tree, lot), tuple(told.items()))
        self.assertTrue(is_homes(program, tree, lot, tuple(told.items())))
        used = [home for home in told.values() if home is not None]
        most = max(plain_counts(run, lot, alive))
        self.assertEqual(len(set(used)), most)
        for at, (value, home) in enumerate(told.items()):
            pairs = list(told.items())
            pairs[at] = (value, 0)
            good = home is not None and all(
                other == value or told[other] != 0 or not (other in row and value in row)
                for row in alive for other in told
            )
            self.assertEqual(is_homes(program, tree, lot, tuple(pairs)), good)

    def look_at_greatest(self, program, lot, best):
        most = most_alive(program, lot)
        if most is None:
            tree, path, below = pump(program, lot)
            for many in (1, 2, 4):
                told = pumped(program, tree, path, below, many)
                self.assertGreaterEqual(max(counts(program, told, lot)), many)
            tree, number = alive_spot(program, lot, 6)
            self.assertGreaterEqual(counts(program, tree, lot)[number], 6)
            return
        self.assertIsNone(pump(program, lot))
        self.assertGreaterEqual(most, best)
        self.assertIsNone(alive_spot(program, lot, most + 1))
        if most > 0:
            tree, number = alive_spot(program, lot, most)
            self.assertEqual(counts(program, tree, lot)[number], most)

    def test_most_left_by_depth(self):
        # Where all TREES of small depth are few, nodes that are left have left at least what
        # these show; and where no TREE is deeper, just that.
        for program, lot, _, _ in small_programs(range(340, 352), SLIM, 5):
            for depth in range(1, 8):
                trees = trees_by_depth(program, 0, depth, 60)
                if trees is None:
                    break
                # TREES can have some depths and leave out others.
                more = trees_by_depth(program, 0, depth + 4, 60)
                if not trees or more is None or len(more) > len(trees):
                    continue
                left = {}
                for tree in trees:
                    for mark, many in plain_left(program, tree, lot, moments_of(program, tree)).items():
                        left[mark] = max(left.get(mark, 0), many)
                for procedure in range(len(program)):
                    for visits in (1, 2, 3):
                        self.assertEqual(most_left(program, lot, procedure, visits), left.get((procedure, visits), 0))
                break

    def test_greatest_numbers_of_programs_without_rings(self):
        for program, lot, _, _ in small_programs(range(360, 372), SLIM, 5):
            trees = [trees_by_depth(program, 0, depth, 80) for depth in (4, 8)]
            if None not in trees and len(trees[0]) == len(trees[1]):
                best = max(max(counts(program, tree, lot)) for tree in trees[0])
                self.assertEqual(most_alive(program, lot), best)

    def test_alive_by_plain_walks(self):
        for program, tree in ((DEEP, CHAIN), (BUSH, YOUNG), (LENT, SLOW), (DEEP, chain_of(2))):
            run, trees = PlainRun(program, tree), plain_trees(program, 0, 7)
            lot = pairs_of(program)[1:]
            alive = [plain_alive(program, tree, moment, trees) for moment in range(len(run.events) + 1)]
            self.assertEqual(counts(program, tree, lot), plain_counts(run, lot, alive))


if __name__ == "__main__":
    unittest.main()
