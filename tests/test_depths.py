"""Point [16]: how many values are alive at once by the depth of calls."""

import unittest
from fractions import Fraction
from math import lcm

from crossnest.alives import counts, most_alive
from crossnest.depths import (
    fork, forked, full_depth, height, height_spot, is_height_spot, power, slope, steep,
)
from crossnest.programs import is_clean, pairs_of
from crossnest.trees import depth, is_tree, nodes, pumped, put_at
from tests.samples import (
    A, BOTH, BUSH, CHAIN, D, DEEP, LEAF, LENT, ONCE, TOP, TWICE, YOUNG, chain_of,
)
from tests.small import SLIM, error_told, small_programs
from tests.plain import trees_by_depth


def make(name, *words):
    return "make", name, words


def keeper(*callees):
    """A RULE that keeps an a of its own between its visits, and has all callees do so."""
    goes = tuple(("go", place) for place in range(len(callees)))
    return callees, ((make("a"),) + goes, goes + (make("u", "a"),))


def porter(*callees):
    """A RULE that keeps nothing of its own."""
    goes = tuple(("go", place) for place in range(len(callees)))
    return callees, (goes, goes + (make("u"),))


NONE_IN, OUT_LAST = ((), ()), ((), ("u",))
# The start goes twice to p; a p keeps one a a level, a q is a chain of p's of all lengths.
LINE = (NONE_IN, OUT_LAST, (keeper(), keeper(1)))
ROOT_OF_LINE = (((),), (("r",),), (((1,), ((("go", 0), ("go", 0), make("r", (0, "u"))),)),))
STRAIGHT = (ROOT_OF_LINE, LINE)
SQUARE = (
    (((),), (("r",),), (((1,), ((("go", 0), ("go", 0), make("r", (0, "u"))),)),)),
    (NONE_IN, OUT_LAST, (porter(2), porter(2, 1))), (NONE_IN, OUT_LAST, (keeper(), keeper(2))),
)
# One PROCEDURE more than the bound has it.
CUBE = (
    (((),), (("r",),), (((1,), ((("go", 0), ("go", 0), make("r", (0, "u"))),)),)),
    (NONE_IN, OUT_LAST, (porter(2), porter(2, 1))), (NONE_IN, OUT_LAST, (porter(3), porter(3, 2))),
    (NONE_IN, OUT_LAST, (keeper(), keeper(3))),
)
# Every second level of the one callee keeps an a, each of the other one; both are kept at once.
HALVES = (
    (((),), (("r",),), (((1, 3), ((("go", 0), ("go", 1), ("go", 0), ("go", 1), make("r", (0, "u"))),)),)),
    (NONE_IN, OUT_LAST, (porter(2), porter())), (NONE_IN, OUT_LAST, (keeper(1),)),
    (NONE_IN, OUT_LAST, (keeper(), keeper(3))),
)
A_OF_HALF, A_OF_BOTH = ((2, "a"),), ((2, "a"), (3, "a"))
# Two levels keep three values: two by p, one by q.
THIRDS = (
    (((),), (("r",),), (((1,), ((("go", 0), ("go", 0), make("r", (0, "u"))),)),)),
    (NONE_IN, OUT_LAST, (
        ((2,), ((make("a"), make("b"), ("go", 0)), (("go", 0), make("u", "a", "b")))), porter(),
    )),
    (NONE_IN, OUT_LAST, (keeper(1),)),
)
# A chain under which a bush stands, and bushes that keep nothing.
TALL = (ROOT_OF_LINE, (NONE_IN, OUT_LAST, (keeper(2), keeper(1))), (NONE_IN, OUT_LAST, (keeper(), keeper(2, 2))))
BARE = (ROOT_OF_LINE, (NONE_IN, OUT_LAST, (porter(), porter(1, 1))))


def all_pumped(program, tree, pumps, many):
    """The TREE in which each pump stands so often, by the lengths of the rings."""
    shared = lcm(*(len(below) for _, below, _ in pumps))
    for path, below, _ in pumps:
        tree = pumped(program, tree, path, below, many * shared // len(below))
    return tree, many * shared


class Plain(unittest.TestCase):
    def test_programs(self):
        for program in (STRAIGHT, SQUARE, CUBE, HALVES, THIRDS, TALL, BARE):
            self.assertTrue(is_clean(program))

    def test_heights(self):
        self.assertEqual([height(DEEP, D, level) for level in range(1, 7)], [None, 1, 2, 3, 4, 5])
        self.assertEqual([height(BUSH, A, level) for level in range(1, 13)], [None] + [2 ** level - 1 for level in range(1, 12)])
        self.assertEqual([height(TWICE, A, level) for level in (1, 2, 3, 12)], [None, 2, 2, 2])
        self.assertEqual([height(ONCE, ((0, "x"),), level) for level in (1, 2, 12)], [1, 1, 1])
        self.assertEqual([height(DEEP, (), level) for level in (1, 2, 3)], [None, 0, 0])
        told = [height(SQUARE, ((2, "a"),), level) for level in range(1, 9)]
        self.assertEqual(told, [None, None, 1, 3, 6, 10, 15, 21])
        told = [height(CUBE, ((3, "a"),), level) for level in range(4, 10)]
        self.assertEqual(told, [1, 4, 10, 20, 35, 56])

    def test_powers(self):
        for program, lot, told in (
                (STRAIGHT, A, 1), (SQUARE, ((2, "a"),), 2), (CUBE, ((3, "a"),), 3), (HALVES, A_OF_BOTH, 1), (BUSH, A, None),
                (TALL, ((1, "a"),), 1), (TALL, ((2, "a"),), None), (BARE, pairs_of(BARE), 0), (TWICE, A, 0), (ONCE, (), 0),
                (DEEP, D, 1), (DEEP, ((1, "u"),), 0), (BUSH, (), 0), (LENT, pairs_of(LENT), 0), (BARE, ((0, "r"),), 0),
        ):
            self.assertEqual(power(program, lot), told, (program, lot))
            self.assertEqual(most_alive(program, lot) is None, told != 0)

    def test_full_depths(self):
        self.assertEqual(full_depth(TWICE, A), 2)
        self.assertEqual(full_depth(ONCE, ()), 1)
        self.assertEqual(full_depth(DEEP, ()), 2)
        self.assertEqual(full_depth(DEEP, ((1, "u"),)), 2)
        # An a is kept at the end of fourteen levels alone; there is a TREE of one level, too.
        between = tuple((((),), ((),), (((number + 1,), ((("go", 0),),)),)) for number in range(1, 14))
        program = (
            (((),), (("r",),), (((1,), ((("go", 0), make("r")),)), ((), ((make("r"),),)))),
        ) + between + ((((),), ((),), (((), ((make("a"), make("b", "a")),)),)),)
        self.assertEqual(full_depth(program, ((14, "a"),)), 15)
        self.assertEqual([height(program, ((14, "a"),), level) for level in (1, 14, 15, 16)], [0, 0, 1, 1])
        for program, lot in ((DEEP, D), (BUSH, A), (SQUARE, ((2, "a"),))):
            self.assertEqual(error_told(full_depth, program, lot), ("CanNot",))

    def test_slopes(self):
        for program, lot, told in (
                (STRAIGHT, A, (1, 1)), (HALVES, A_OF_HALF, (1, 2)), (HALVES, A_OF_BOTH, (3, 2)), (DEEP, D, (1, 1)),
                (THIRDS, ((1, "a"), (1, "b"), (2, "a")), (3, 2)), (THIRDS, ((1, "a"), (1, "b")), (1, 1)),
                (THIRDS, ((2, "a"),), (1, 2)), (TWICE, A, (0, 1)), (DEEP, (), (0, 1)), (TALL, ((1, "a"),), (1, 1)),
        ):
            self.assertEqual(slope(program, lot), told)
            if told[0] > 0:
                self.look_at_steep(program, lot)
                many = 24 * told[1]
                self.assertEqual(height(program, lot, 40 + many) - height(program, lot, 40), 24 * told[0])
            else:
                self.assertEqual(error_told(steep, program, lot), ("CanNot",))
        for program, lot in ((BUSH, A), (SQUARE, ((2, "a"),)), (TALL, ((2, "a"),))):
            self.assertEqual(error_told(slope, program, lot), ("CanNot",))
            self.assertEqual(error_told(steep, program, lot), ("CanNot",))

    def look_at_steep(self, program, lot):
        tree, pumps = steep(program, lot)
        self.assertTrue(is_tree(program, 0, tree))
        told = Fraction(*slope(program, lot))
        self.assertEqual(sum(Fraction(gain, len(below)) for _, below, gain in pumps), told)
        for path, _, _ in pumps:
            self.assertEqual([other for other, _, _ in pumps if other[:len(path)] == path], [path])
        for many in (1, 2, 3):
            found, levels = all_pumped(program, tree, pumps, many)
            self.assertGreaterEqual(max(counts(program, found, lot)), levels * told)

    def test_height_spots(self):
        for program, lot in ((DEEP, D), (BUSH, A), (SQUARE, ((2, "a"),)), (TWICE, A), (ONCE, ()), (DEEP, ())):
            for level in range(1, 6):
                spot = height_spot(program, lot, level)
                if height(program, lot, level) is None:
                    self.assertIsNone(spot)
                    continue
                self.assertTrue(is_tree(program, 0, spot[0]))
                self.assertLessEqual(depth(spot[0]), level)
                self.assertEqual(counts(program, spot[0], lot)[spot[1]], height(program, lot, level))
                self.assertTrue(is_height_spot(program, lot, level, spot))
        for thing in (
                (CHAIN, 1), (CHAIN, 3), (CHAIN, -5), (CHAIN, 99), (chain_of(2), 3), (CHAIN, True), [CHAIN, 2], (CHAIN, 2, 2),
                (BOTH, 2), (CHAIN, "2"), None, True, 2, "spot", (CHAIN,), (CHAIN, None), (None, 2),
        ):
            self.assertFalse(is_height_spot(DEEP, D, 3, thing), thing)
        self.assertTrue(is_height_spot(DEEP, D, 3, (CHAIN, 2)))
        self.assertFalse(is_height_spot(DEEP, D, 1, (CHAIN, 2)))
        self.assertFalse(is_height_spot(DEEP, D, 4, (CHAIN, 2)))

    def test_forked(self):
        self.assertEqual(forked(BUSH, YOUNG, (0,), (0,), (1,), 1), YOUNG)
        self.assertEqual(forked(BUSH, YOUNG, (0,), (0,), (1,), 0), (0, ((0, ()),)))
        self.assertEqual([nodes(forked(BUSH, YOUNG, (0,), (1,), (0,), many)) for many in range(5)], [2, 4, 8, 16, 32])
        # What stands at path + below is B(0), also at path + other.
        uneven = put_at(BUSH, YOUNG, (0, 0), YOUNG[1][0])
        self.assertEqual(nodes(forked(BUSH, uneven, (0,), (0,), (1,), 1)), 8)
        self.assertEqual(nodes(forked(BUSH, uneven, (0,), (1,), (0,), 1)), 4)
        deeper = put_at(BUSH, YOUNG, (0, 1), YOUNG[1][0])
        self.assertEqual(nodes(forked(BUSH, deeper, (0,), (0,), (1, 0), 2)), 14)
        for path, below, other, told in (
                ((3,), (9,), (9,), (3,)), ((0,), (9,), (8,), (0, 9)), ((0,), (0,), (8,), (0, 8)), ((0,), (-1,), (0,), (0, -1)),
        ):
            self.assertEqual(error_told(forked, BUSH, YOUNG, path, below, other, 1), ("NoPath", told))
        for path, below, other in (
                ((0,), (0,), (0,)), ((), (0, 0), (0, 1)), ((0,), (), (1,)), ((0,), (0,), ()), ((), (), ()),
        ):
            self.assertEqual(error_told(forked, BUSH, YOUNG, path, below, other, 1), ("Unfit",))
        self.assertEqual(error_told(forked, BUSH, deeper, (0,), (1,), (1, 0), 1), ("Unfit",))
        self.assertEqual(error_told(forked, BUSH, deeper, (0,), (1, 0), (1,), 1), ("Unfit",))

    def test_forks(self):
        for program, lot in ((BUSH, A), (TALL, ((2, "a"),)), (TALL, pairs_of(TALL)), (BUSH, pairs_of(BUSH))):
            tree, path, below, other = fork(program, lot)
            for many in range(6):
                told = forked(program, tree, path, below, other, many)
                self.assertTrue(is_tree(program, 0, told))
                self.assertGreaterEqual(max(counts(program, told, lot)), 2 ** many)
        for program, lot in ((DEEP, D), (TWICE, A), (SQUARE, ((2, "a"),)), (TALL, ((1, "a"),)), (BUSH, ())):
            self.assertIsNone(fork(program, lot))

    def test_errors_pair_by_pair(self):
        for call, rest in (
                (height, (1,)), (height_spot, (1,)), (is_height_spot, (1, None)), (power, ()), (full_depth, ()), (slope, ()),
                (steep, ()), (fork, ()),
        ):
            told = lambda lot: error_told(call, TWICE, lot, *rest)
            self.assertEqual(told(((0, "zz"), (7, "a"))), ("NoName", "zz"))
            self.assertEqual(told(((0, "r"), (7, "zz"))), ("NoProcedure", 7))
            self.assertEqual(told(((-1, "zz"),)), ("NoProcedure", -1))

    def test_shallow_callees(self):
        # What is not gone to yet has its levels, too: d is alive ahead of a chain of two more.
        program = (TOP, ((("d",),), (("u",),), (
            ((2,), ((("go", 0), make("u", "d")),)),
        )), (((),), ((),), (((3,), ((("go", 0),),)),)), (((),), ((),), (((), ((make("x"),),)),)))
        self.assertEqual([height(program, D, level) for level in (3, 4, 5)], [None, 1, 1])
        self.assertEqual(full_depth(program, D), 4)
        self.assertEqual(LEAF[0], ())


class ForAllRuns(unittest.TestCase):
    def test_against_all_trees_of_a_depth(self):
        for program, lot, _, _ in small_programs(range(400, 436), SLIM, 5):
            best = None
            for level in range(1, 6):
                trees = trees_by_depth(program, 0, level, 120)
                if trees is None:
                    break
                for tree in trees:
                    best = max(-1 if best is None else best, max(counts(program, tree, lot)))
                self.assertEqual(height(program, lot, level), best)
                spot = height_spot(program, lot, level)
                if best is None:
                    self.assertIsNone(spot)
                else:
                    self.assertLessEqual(depth(spot[0]), level)
                    self.assertEqual(counts(program, spot[0], lot)[spot[1]], best)

    def test_how_heights_grow(self):
        seen = set()
        for program, lot, _, _ in small_programs(range(440, 470), SLIM, 5):
            told, most = power(program, lot), most_alive(program, lot)
            seen.add(told)
            self.assertEqual(told == 0, most is not None)
            if told == 0:
                level = full_depth(program, lot)
                self.assertEqual([height(program, lot, level + more) for more in range(3)], [most] * 3)
                self.assertTrue(level == 1 or height(program, lot, level - 1) != most)
                self.assertEqual(slope(program, lot), (0, 1))
            elif told is None:
                self.assertGreater(height(program, lot, 60), 2 ** 10)
            else:
                ratio = height(program, lot, 160) / height(program, lot, 80)
                self.assertTrue(2 ** (told - 0.5) < ratio < 2 ** (told + 0.5))
            if told == 1:
                Plain.look_at_steep(self, program, lot)
                top, bottom = slope(program, lot)
                self.assertEqual(height(program, lot, 60 + 60 * bottom) - height(program, lot, 60), 60 * top)
        self.assertLessEqual({0, 1}, seen)


if __name__ == "__main__":
    unittest.main()
