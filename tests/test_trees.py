"""Point [5]: TREES, their parts and sizes, the least ones, pumping."""

import random
import unittest

from crossnest.errors import CanNot, NoPath, NoProcedure, NoRule, TooMany, Unfit
from crossnest.programs import rings, trimmed
from crossnest.trees import (
    at_path, depth, is_tree, least_by, least_tree, nodes, paths, procedure_of, pumped, put_at,
    tree_having, trees_of,
)
from tests.plain import made_program, plain_trees
from tests.samples import BOTH, CHAIN, DEEP, ENDLESS, ONCE, TWICE, chain_of

GO = ("go", 0)
# Each node has two callees of its own PROCEDURE, or none.
FORK = ((((),), ((),), (((0, 0), ((("go", 0), ("go", 1)),)), ((), ((),)))),)


def flat(rules):
    """A PROGRAM whose start has so many RULES without callees."""
    return ((((),), ((),), (((), ((),)),) * rules),)


def clean_programs(seeds, **kinds):
    for seed in seeds:
        try:
            yield seed, trimmed(made_program(seed, **kinds))
        except CanNot:
            pass


class Parts(unittest.TestCase):
    def test_is_tree(self):
        self.assertTrue(is_tree(TWICE, 0, BOTH))
        for thing in (
                (0,), (0, ()), (0, ((0, ()),)), (0, ((0, ()), (1, ()))), (0, ((0, ()), (0, ()), (0, ()))),
                (False, BOTH[1]), (-1, BOTH[1]), (1, BOTH[1]), (0, [(0, ()), (0, ())]), [0, BOTH[1]],
                (0, ((0, ()), (False, ()))), (0, ((0, ()), (0, []))), (0, BOTH[1], ()), ("0", BOTH[1]), (0, "ab"),
        ):
            self.assertFalse(is_tree(TWICE, 0, thing), thing)

    def test_deep_things(self):
        deep = chain_of(45)
        self.assertTrue(is_tree(DEEP, 0, deep))
        self.assertFalse(is_tree(DEEP, 1, deep))
        self.assertFalse(is_tree(DEEP, 0, put_at(DEEP, deep, (0,) * 46, (1, ((0, ()),)))[1][0]))
        wide = (0, tuple((0, ()) for _ in range(10 ** 4)))
        self.assertFalse(is_tree(TWICE, 0, wide))

    def test_no_procedure_comes_first(self):
        for number in (-1, 2):
            for call in (
                    lambda: is_tree(DEEP, number, None), lambda: trees_of(DEEP, number, 0),
                    lambda: least_tree(DEEP, number), lambda: least_by(DEEP, number, 9),
                    lambda: tree_having(DEEP, number, 9),
            ):
                with self.assertRaises(NoProcedure) as caught:
                    call()
                self.assertEqual(caught.exception.number, number)

    def test_no_rule(self):
        for number in (-1, 2):
            for function in (least_by, tree_having):
                with self.assertRaises(NoRule) as caught:
                    function(ENDLESS if number == 2 else DEEP, 1, number)
                self.assertEqual(caught.exception.number, number)

    def test_no_path(self):
        for path in ((1,), (-1,), (0, 1), (0, 0, 0), (0, -1, 0)):
            for call in (
                    lambda: at_path(CHAIN, list(path)), lambda: procedure_of(DEEP, CHAIN, path),
                    lambda: put_at(DEEP, CHAIN, path, (7, ())), lambda: pumped(DEEP, CHAIN, path, (5,), 1),
            ):
                with self.assertRaises(NoPath) as caught:
                    call()
                self.assertEqual(caught.exception.path, path)

    def test_sizes(self):
        self.assertEqual((nodes(BOTH), depth(BOTH), paths(BOTH)), (3, 2, ((), (0,), (1,))))
        lop = (0, ((0, ((1, ()), (1, ()))), (1, ())))
        self.assertEqual((nodes(lop), depth(lop)), (5, 3))
        self.assertEqual(paths(lop), ((), (0,), (0, 0), (0, 1), (1,)))

    def test_put_at(self):
        self.assertEqual(put_at(DEEP, CHAIN, (), (0, ((0, ()),))), (0, ((0, ()),)))
        self.assertEqual(put_at(TWICE, BOTH, (1,), (0, ())), BOTH)
        for path, other in (((), (0, ())), ((0,), CHAIN[1]), ((0,), (2, ())), ((0, 0), (1, ()))):
            with self.assertRaises(Unfit):
                put_at(DEEP, CHAIN, path, other)


class All(unittest.TestCase):
    def test_trees_of(self):
        self.assertEqual(trees_of(DEEP, 0, 0), [])
        self.assertEqual(trees_of(DEEP, 0, 1), [])
        self.assertEqual(trees_of(ENDLESS, 1, 40), [])
        self.assertEqual(trees_of(DEEP, 0, 40), [chain_of(many) for many in range(39)])
        self.assertEqual(trees_of(FORK, 0, 5), [
            (1, ()), (0, ((1, ()), (1, ()))),
            (0, ((0, ((1, ()), (1, ()))), (1, ()))), (0, ((1, ()), (0, ((1, ()), (1, ()))))),
        ])

    def test_too_many(self):
        self.assertEqual(len(trees_of(flat(2000), 0, 1)), 2000)
        for many in (1, 40):
            with self.assertRaises(TooMany):
                trees_of(flat(2001), 0, many)
        self.assertEqual(trees_of(flat(2001), 0, 0), [])
        # Catalan's numbers: 1, 1, 2, 5, 14, 42, 132, 429, 1430 come to 2,056 with 17 nodes.
        self.assertEqual(len(trees_of(FORK, 0, 16)), 626)
        for many in (17, 40):
            with self.assertRaises(TooMany):
                trees_of(FORK, 0, many)

    def test_a_callee_may_have_more_trees_than_are_asked_for(self):
        start = (((),), ((),), (((1, 2), ((("go", 0), ("go", 1)),)),))
        fork = (((),), ((),), (((1, 1), FORK[0][2][0][1]), ((), ((),))))
        long = (((),), ((),), (((3,), ((GO,),)),))
        leaf = (((),), ((),), (((), ((),)),))
        program = (start, fork, long, leaf)
        self.assertEqual(len(trees_of(program, 0, 18)), 626)

    def test_by_chance(self):
        for seed, program in clean_programs(range(200)):
            for procedure in range(len(program)):
                told = plain_trees(program, procedure, 5)
                if len(told) <= 2000:
                    self.assertEqual(trees_of(program, procedure, 5), told, seed)
                else:
                    with self.assertRaises(TooMany):
                        trees_of(program, procedure, 5)


class Least(unittest.TestCase):
    def test_none(self):
        for call in (
                lambda: least_tree(ENDLESS, 0), lambda: least_by(ENDLESS, 1, 0), lambda: tree_having(ENDLESS, 0, 0),
                lambda: tree_having(DEEP + ONCE, 2, 0),
        ):
            with self.assertRaises(CanNot):
                call()

    def test_fewest_nodes_come_ahead_of_the_least_rule(self):
        program = (DEEP[0], (DEEP[1][0], DEEP[1][1], tuple(reversed(DEEP[1][2]))))
        self.assertEqual(least_tree(program, 0), (0, ((1, ()),)))
        self.assertEqual(least_by(program, 1, 0), (0, ((1, ()),)))

    def test_of_equal_size_the_least(self):
        two = (((),), ((),), (((), ((),)), ((), ((),))))
        program = ((((),), ((),), (((1, 1), ((("go", 0), ("go", 1)),)),)), two)
        self.assertEqual(least_tree(program, 0), (0, ((0, ()), (0, ()))))
        self.assertEqual(tree_having(program, 1, 1), ((0, ((0, ()), (1, ()))), (1,)))
        self.assertEqual(tree_having(program, 1, 0), ((0, ((0, ()), (0, ()))), (0,)))

    def test_by_chance(self):
        for seed, program in clean_programs(range(200)):
            for procedure in range(len(program)):
                told = plain_trees(program, procedure, 5)
                if told:
                    self.assertEqual(least_tree(program, procedure), told[0], seed)
                for rule in range(len(program[procedure][2])):
                    mine = [tree for tree in told if tree[0] == rule]
                    if mine:
                        self.assertEqual(least_by(program, procedure, rule), mine[0], seed)
            first = {}
            for tree in plain_trees(program, 0, 5)[:100]:
                for path in paths(tree):
                    key = procedure_of(program, tree, path), at_path(tree, path)[0]
                    first.setdefault(key, (tree, path))
            for (procedure, rule), found in first.items():
                self.assertEqual(tree_having(program, procedure, rule), found, seed)


class Pumping(unittest.TestCase):
    def test_numbers(self):
        for many in range(5):
            self.assertEqual(pumped(DEEP, CHAIN, (0,), (0,), many), chain_of(many))
        self.assertEqual(pumped(DEEP, chain_of(3), (0,), (0, 0), 2), chain_of(5))

    def test_in_a_fork(self):
        tree = (0, ((0, ((1, ()), (1, ()))), (1, ())))
        self.assertEqual(pumped(FORK, tree, (), (0,), 1), tree)
        self.assertEqual(pumped(FORK, tree, (), (0,), 0), tree[1][0])
        self.assertEqual(pumped(FORK, tree, (), (1,), 2), (0, (tree[1][0], tree)))

    def test_errors_in_their_order(self):
        with self.assertRaises(NoPath) as caught:
            pumped(DEEP, CHAIN, (0,), (1,), 1)
        self.assertEqual(caught.exception.path, (0, 1))
        for path, below in (((), (0,)), ((0,), ()), ((), ()), ((), (0, 0))):
            with self.assertRaises(Unfit):
                pumped(DEEP, CHAIN, path, below, 1)

    def test_what_comes_may_be_large_and_passed_in_again(self):
        tree = pumped(DEEP, chain_of(38), (0,), (0,) * 38, 40)
        self.assertEqual((nodes(tree), depth(tree)), (1522, 1522))
        self.assertTrue(is_tree(DEEP, 0, tree))
        self.assertEqual(at_path(tree, (0,) * 1520), (1, ((0, ()),)))
        self.assertEqual(len(paths(tree)), 1522)
        self.assertEqual(procedure_of(DEEP, tree, (0,) * 1521), 1)
        self.assertEqual(nodes(put_at(DEEP, tree, (0,) * 700, [0, []])), 701)
        self.assertEqual(nodes(pumped(DEEP, tree, (0,), (0,) * 1000, 0)), 522)

    def test_two_of_one_procedure_one_below_the_other(self):
        chance = random.Random(5)
        for seed, program in clean_programs(range(120)):
            if not rings(program):
                continue
            for tree in plain_trees(program, 0, 6)[:40]:
                if depth(tree) <= len(program):
                    continue
                pairs = [
                    (path, below[len(path):]) for path in paths(tree) for below in paths(tree)
                    if len(below) > len(path) and below[:len(path)] == path
                    and procedure_of(program, tree, path) == procedure_of(program, tree, below)
                ]
                self.assertTrue(pairs, seed)
                path, below = chance.choice(pairs)
                self.assertEqual(pumped(program, tree, path, below, 1), tree)
                for many in (0, 2, 3):
                    found = pumped(program, tree, path, below, many)
                    collar = nodes(at_path(tree, path)) - nodes(at_path(tree, path + below))
                    self.assertTrue(is_tree(program, 0, found))
                    self.assertEqual(nodes(found), nodes(tree) + (many - 1) * collar)


if __name__ == "__main__":
    unittest.main()
